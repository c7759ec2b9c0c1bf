/-
  The walk of the law SeekEnds: for every configuration, cells and home it answers true.
-/
import Derived.Test.YtlaejiephpmniaaSeekFits
import Derived.Test.YtlaejiephpmniaaSeekWalk
namespace Go.Proofs.Ytlaejiephpmniaa.seekEnds
open Go.RowKit
set_option linter.unusedVariables false
section
variable {w : World} {lo a m d X : Nat} {p sh wo qu tr : Int} {A B : Option Addr} {n c : Nat} {zs : List Int} {ys : List Nat}
set_option maxRecDepth 100000 in
set_option maxHeartbeats 4000000 in
theorem main (ha : a < 4294967296) (h0 : IS .i64 lo w A n c zs) (hU : US w B m d ys) (hX : X < 256) :
    Calls Try.prog 3 #[.agg #[.int .u32 (a : Int), .int .i64 p, .slice A n c, .int .i64 sh, .int .i64 wo, .int .i64 qu, .int .i64 tr], .slice B m d, .int .u8 (X : Int)] w (RetBo true w) := by
  go_enter Try.func3, Try.ntmps3
  go_upto_region 1 with (fail)
  have L := Loc.start w
  replace L := (L).alloc #[.int .u32 (a : Int), .int .i64 p, .slice A n c, .int .i64 sh, .int .i64 wo, .int .i64 qu, .int .i64 tr] 27
  try simp only [World.size_alloc] at L
  try dsimp only [nput] at L
  generalize (w).alloc (.cells #[.int .u32 (a : Int), .int .i64 p, .slice A n c, .int .i64 sh, .int .i64 wo, .int .i64 qu, .int .i64 tr] 27) = w1 at L ⊢
  generalize w.heap.size = gH at L ⊢
  go_wp2_with fail
  refine (awake_any _).mono ?_
  rintro e w2 ⟨rfl, K'⟩
  replace L := L.over K'
  go_wp2_with (refine wpList_load_want (by rfl) 27 (.tmp 3) rfl gH rfl _ _ (0, 0) _ (L.bk_ 0 rfl) Try.underlying27 rfl cf_sz ?_)
  refine (fitsS_any ha (h0.below L.K)).mono ?_
  rintro e w3 ⟨bo, rfl, hB, K'⟩
  replace L := L.over K'
  rcases bo with _ | _
  · clear hB
    go_wp2_with fail
    refine (awake_any _).mono ?_
    rintro e w92 ⟨rfl, K'⟩
    replace L := L.over K'
    go_wp2
    go_ret
    exact ⟨rfl, L.K⟩
  replace hB := hB rfl
  obtain ⟨hB, hsh1, hsh2⟩ := hB
  unfold FitP at hB
  obtain ⟨M, hMe⟩ : ∃ M, M = 2 ^ (32 - p.toNat) := ⟨_, rfl⟩
  rw [← hMe] at hB
  clear hMe
  obtain ⟨hM, hm4, hmm⟩ := hB
  obtain ⟨ns, hns⟩ : ∃ ns : Nat, sh = (ns : Int) := ⟨sh.toNat, by omega⟩
  subst hns
  have hn1 : 1 ≤ ns := by omega
  have hn2 : ns ≤ 64 := by omega
  clear hsh1 hsh2
  obtain ⟨hd, ehd1, ehd2, hhd⟩ := hd_of (X := X) hn1
  have hns0 : ¬ ((ns : Int) = 0) := by omega
  have hM4 := hM.most
  have hMp := hM.pos
  have hl3 := lv_le hM4
  have ht3 := tv_le hM4
  have hlv : lv M ≤ 128 ∧ 1 ≤ lv M ∧ tv M ≤ 2 ∧ 1 ≤ tv M := by unfold tv tq lv; omega
  have hm6 : m ≤ 65536 ∧ lv M + tv M < m := by omega
  obtain ⟨hm6, hmt⟩ := hm6
  replace hmm := Lib.hid hmm
  have hm0 : 0 < m := by omega
  obtain ⟨bb, oo, hBe, hbb, _⟩ := hU.get hm0
  subst hBe
  have hr64 := gt_lt hU.fit (lv M + tv M)
  have TS := fun w h s k t (hU : US w (some ⟨bb, oo, none⟩) m d ys) hA hE => Lib.hid (sstep_run (w := w) (h := h) (s := s) (k := k) (tt := t) (wo := wo) (qu := qu) (tr := tr) (A := A) (n := n) (c := c) (hd := hd) ha hM hn1 hn2 hhd hmt hU hA hE)
  obtain ⟨T, hT⟩ : ∃ T, T = tv M := ⟨_, rfl⟩
  obtain ⟨T2, hT2⟩ : ∃ T2 : Nat, (2 : Int) + (T : Int) = T2 := ⟨2 + T, by omega⟩
  obtain ⟨MS, hMS⟩ : ∃ MS : Nat, MS = ns * (2 + tv M) := ⟨_, rfl⟩
  have eMS : (ns : Int) * (T2 : Int) = (MS : Int) := by rw [hMS, ← hT]; rw [show (T2 : Int) = ((2 + T : Nat) : Int) by omega]; exact (Int.natCast_mul _ _).symm
  have hMS2 : 2 ≤ MS ∧ MS ≤ 256 := by rw [hMS]; have q1 : 1 * (2 + tv M) ≤ ns * (2 + tv M) := Nat.mul_le_mul_right _ hn1; have q2 : ns * (2 + tv M) ≤ 64 * 4 := Nat.mul_le_mul hn2 (by omega); omega
  have hT9 : T ≤ 2 := by omega
  have eW1 : IntKind.i64.wrap (T2 : Int) = (T2 : Int) := IntWalk.i64_in _ (by omega)
  have eW2 : IntKind.i64.wrap (MS : Int) = (MS : Int) := IntWalk.i64_in _ (by omega)
  have TTp := fun w => Lib.hid (rtops_any M hM4 w)
  rw [← hT] at TTp
  replace hT := Lib.hid hT
  replace hMS := Lib.hid hMS
  have H_0 := L.at_ 0 0 rfl (v := .int .u32 (a : Int)) rfl
  have H_1 := L.at_ 0 1 rfl (v := .int .i64 p) rfl
  have H_z := L.lt 0 rfl
  go_wp2_with fail
  refine (rmany_yes hM).mono ?_
  rintro e w4 ⟨rfl, K'⟩
  clear H_0 H_1 H_z
  replace L := L.over K'
  have H_3 := L.at_ 0 3 rfl (v := .int .i64 (ns : Int)) rfl
  have H_z := L.lt 0 rfl
  go_upto_region 5 with (refine wpList_store_row rfl 41 (.tmp 8) (.tmp 36) rfl _ _ rfl (show _ = Value.agg (opv ⟨none, 0, 0, none, 0, 0, none, 0, 0, none, 0, 0⟩ ⟨0, 0, 0, 0, false, 1, (hd : Int), 0, 0, 0, 0, false, 0, 0, 0, 0⟩) from rfl) _ _ (Bk.new _ _ _) op_sz rfl (opv_one _ _) ?_)
  clear H_3 H_z
  try rw [World.setRow_alloc_new]
  replace L := (L).alloc (opv ⟨none, 0, 0, none, 0, 0, none, 0, 0, none, 0, 0⟩ ⟨0, 0, 0, 0, false, 1, (hd : Int), 0, 0, 0, 0, false, 0, 0, 0, 0⟩) 41
  try simp only [World.size_alloc] at L
  try dsimp only [nput] at L
  generalize (w4).alloc (.cells (opv ⟨none, 0, 0, none, 0, 0, none, 0, 0, none, 0, 0⟩ ⟨0, 0, 0, 0, false, 1, (hd : Int), 0, 0, 0, 0, false, 0, 0, 0, 0⟩) 41) = w5 at L ⊢
  generalize w4.heap.size = gO at L ⊢
  replace L := L.drew
  refine wp_region_held_drew (S := fun w' => Loc w w' [(gO, 41, opv ⟨none, 0, 0, none, 0, 0, none, 0, 0, none, 0, 0⟩ ⟨0, 0, 0, 0, false, 1, (hd : Int), 0, 0, 0, 0, false, 0, 0, 0, 0⟩), (gH, 27, #[.int .u32 (a : Int), .int .i64 p, .slice A n c, .int .i64 (ns : Int), .int .i64 wo, .int .i64 qu, .int .i64 tr])] []) (by kernel_rfl) L (fun hHeld => ?_)
  generalize w5.drew = v6 at hHeld L ⊢
  refine wpAnyH_take (i := 0) (oi := ⟨some 37, _, _, _, _, _⟩) (v := .pointer (some ⟨gH, 3, none⟩)) rfl (by kernel_rfl) (by kernel_rfl) (by kernel_rfl) (fun _ _ _ h => h) (Or.inl ⟨by rfl, ?_⟩) hHeld ?_
  · intro ww hS
    try dsimp only at hS
    go_simp
    try with_reducible rfl
    try omega
  try simp only [Act.put, List.setIfInBounds_toArray, List.set_cons_zero, List.set_cons_succ]
  refine wpAnyH_take (i := 1) (oi := ⟨some 38, _, _, _, _, _⟩) (v := .int .i64 (ns : Int)) rfl (by kernel_rfl) (by kernel_rfl) (by kernel_rfl) (fun _ _ _ h => h) (Or.inl ⟨by rfl, ?_⟩) hHeld ?_
  · intro ww hS
    try dsimp only at hS
    have H_3 := (hS).at_ 1 3 rfl (v := .int .i64 (ns : Int)) rfl
    have H_z := (hS).lt 1 rfl
    go_simp
    try with_reducible rfl
    try omega
  try simp only [Act.put, List.setIfInBounds_toArray, List.set_cons_zero, List.set_cons_succ]
  refine wpAnyH_take (i := 2) (oi := ⟨some 39, _, _, _, _, _⟩) (v := .int .i64 (M : Int)) rfl (by kernel_rfl) (by kernel_rfl) (by kernel_rfl) (fun _ _ _ h => h) (Or.inl ⟨by rfl, ?_⟩) hHeld ?_
  · intro ww hS
    try dsimp only at hS
    go_simp
    try with_reducible rfl
    try omega
  try simp only [Act.put, List.setIfInBounds_toArray, List.set_cons_zero, List.set_cons_succ]
  refine wpAnyH_ready (rs := [3]) (by kernel_rfl) (by simp) ?_
  refine AllReadyH.cons (o := ⟨some 40, _, _, _, _, _⟩) rfl (fun K0 hK => ?_) AllReadyH.nil
  go_simp
  refine ((TTp _).out).mono ?_
  rintro e w' ⟨rfl, rfl⟩
  refine hK.out _ _ L (fun hHeld' => ?_)
  clear hHeld hK K0
  have hHeld := hHeld'
  clear hHeld'
  try simp only [Act.put, List.setIfInBounds_toArray, List.set_cons_zero, List.set_cons_succ]
  refine wpAnyH_take (i := 4) (oi := ⟨some 41, _, _, _, _, _⟩) (v := .int .i64 (T2 : Int)) rfl (by kernel_rfl) (by kernel_rfl) (by kernel_rfl) (fun _ _ _ h => h) (Or.inl ⟨by rfl, ?_⟩) hHeld ?_
  · intro ww hS
    try dsimp only at hS
    go_simp
    try with_reducible rfl
    try omega
  try simp only [Act.put, List.setIfInBounds_toArray, List.set_cons_zero, List.set_cons_succ]
  refine wpAnyH_take (i := 5) (oi := ⟨some 42, _, _, _, _, _⟩) (v := .int .i64 (MS : Int)) rfl (by kernel_rfl) (by kernel_rfl) (by kernel_rfl) (fun _ _ _ h => h) (Or.inl ⟨by rfl, ?_⟩) hHeld ?_
  · intro ww hS
    try dsimp only at hS
    go_simp
    try with_reducible rfl
    try omega
  try simp only [Act.put, List.setIfInBounds_toArray, List.set_cons_zero, List.set_cons_succ]
  refine wpAnyH_take (i := 6) (oi := ⟨some 9, _, _, _, _, _⟩) (v := .int .i64 (MS : Int)) rfl (by kernel_rfl) (by kernel_rfl) (by kernel_rfl) (fun _ _ _ h => h) (Or.inl ⟨by rfl, ?_⟩) hHeld ?_
  · intro ww hS
    try dsimp only at hS
    go_simp
    try with_reducible rfl
    try omega
  try simp only [Act.put, List.setIfInBounds_toArray, List.set_cons_zero, List.set_cons_succ]
  refine wpAnyH_done (by kernel_rfl) ?_ _
  clear hHeld
  go_wp2
  replace L := L.is 0 (opv hd0 ⟨0, 0, 0, 0, false, 1, (hd : Int), 0, 0, 0, 0, false, 0, 0, 0, 0⟩) rfl
  try dsimp only [nput] at L
  go_loopw [10, 11] (fun st sv wr => ∃ (u : Nat) (s : Sc) (h : Hd), u < MS ∧ st = .int .i64 (u : Nat) ∧ sv = .int .i64 (u : Nat) ∧ SkI M ns hd ys s (MS - u) ∧ EmpL h ∧ Loc w wr [(gO, 41, opv h s), (gH, 27, #[.int .u32 (a : Int), .int .i64 p, .slice A n c, .int .i64 (ns : Int), .int .i64 wo, .int .i64 qu, .int .i64 tr])] []) (fun _ sv _ => MS - (intOf sv).toNat)
  case atStart => exact ⟨0, ⟨0, 0, 0, 0, false, 1, (hd : Int), 0, 0, 0, 0, false, 0, 0, 0, 0⟩, hd0, by omega, rfl, rfl, .inl ⟨0, 0, sk_start hn1, by unfold mu; rw [hMS.out]; exact Nat.le_refl _⟩, EmpL.hd0, L⟩
  case round =>
    clear L
    obtain ⟨u, s, h, hu, rfl, rfl, hSk, hE, L⟩ := hrel
    have hu2 : (u : Int) < (MS : Int) := by omega
    rcases hSk with ⟨k, t, hA, hmu⟩ | ⟨k, i0, hS⟩ | hS
    · have hp1 : (s.phase == 1) = true := by rw [hA.ph]; rfl
      have hst := ski_step hn1 hr64 hA hmu
      have hmp := mu_pos hA.hk hA.ht
      obtain ⟨s2, hs2⟩ : ∃ s2, s2 = skS (ns : Int) M ys (sa M ns hd k) (sb M ns hd k) s := ⟨_, rfl⟩
      have TK := fun w (U : US w (some ⟨bb, oo, none⟩) m d ys) => TS w h s k t U hA hE
      rw [← hs2] at hst
      simp only [← hs2] at TK
      replace hst := Lib.hid hst
      clear hs2
      have O_8 := L.at_ 0 8 rfl (v := .int .i64 s.phase) rfl
      have O_z := L.lt 0 rfl
      go_wp2_with (first | (refine wpList_load_row rfl 27 (.tmp 3) rfl gH rfl _ _ (0, 0) _ (L.bk_ 1 rfl) Try.underlying27 rfl cf_sz ?_) | (refine wpList_load_row rfl 41 (.tmp 8) rfl gO rfl _ _ (0, 0) _ (L.bk_ 0 rfl) Try.underlying41 rfl op_sz ?_))
      refine ((TK _ (hU.below L.K)).out).mono ?_
      rintro e w7 ⟨h2, rfl, hE2, K'⟩
      clear O_8 O_z
      replace L := L.over K'
      go_upto_region 11 with (refine wpList_store_row rfl 41 (.tmp 8) (.tmp 56) rfl gO _ rfl rfl _ _ (L.bk_ 0 rfl) op_sz rfl (opv_one _ _) ?_)
      replace L := (L.row 0 rfl (opv h2 s2))
      try dsimp only [nput] at L
      generalize (w7).setRow gO (opv h2 s2) = w8 at L ⊢
      go_wp2
      go_roundw
      case rel => exact ⟨u + 1, s2, h2, by omega, by go_num, by go_num, by have := hst.out.2; rwa [show MS - u - 1 = MS - (u + 1) by omega] at this, hE2, L⟩
      case measure => simp [intOf]; omega
    · clear TS
      have hgt1 : decide (MS < u) = false := by simp; omega
      have hgt2 : ¬ (MS < u) := by omega
      have hp1 : (s.phase == 1) = false := by rw [hS.ph]; rfl
      have hp2 : (s.phase == 2) = true := by rw [hS.ph]; rfl
      have hlf : s.leaf = (i0 : Int) := hS.lf
      have hsd := hS.sd
      have hso := hS.so
      have hun := Lib.hid hS.un
      have hlo := hS.lo
      have hhi := hS.hi
      have hkn := hS.hk
      have hi0 : i0 < lv M := Nat.lt_of_lt_of_le hhi (sab hn1).2
      have hOf := fun w => Lib.hid (rof_any M ns i0 ((hd + k) % ns) hM4 hn1 hn2 (Nat.mod_lt _ hn1) hlo hhi w)
      have hRe := fun w => Lib.hid (rest_any (hd + k) ns hn1 hn2 (by omega) w)
      generalize (hd + k) % ns = q at hOf hRe
      clear hlo hhi
      obtain ⟨sm, hsm⟩ : ∃ sm : Nat, (hd : Int) + (k : Int) = sm := ⟨hd + k, by omega⟩
      have hsmn : hd + k = sm := by omega
      rw [hsmn] at hRe
      clear hsmn
      have hkb : hd ≤ 64 ∧ k ≤ 64 ∧ sm ≤ 128 := by omega
      have eW3 : IntKind.i64.wrap (sm : Int) = (sm : Int) := IntWalk.i64_in _ (by omega)
      clear hS
      have TLv := fun w => Lib.hid (rleaves_any M hM4 w)
      have TTo := fun i (hi : i ≤ 65536) w => Lib.hid (rtop_any M i hM4 hi w)
      have TRo := fun i (hi : i ≤ 65536) w => Lib.hid (rroot_any M i hM4 hi w)
      have O_8 := L.at_ 0 8 rfl (v := .int .i64 s.phase) rfl
      have O_z := L.lt 0 rfl
      go_wp2_with fail
      clear O_8 O_z
      obtain ⟨LV, hLV⟩ : ∃ LV, LV = lv M := ⟨_, rfl⟩
      rw [← hLV] at TLv
      replace hLV := Lib.hid hLV
      go_loopw [12, 13] (fun fv iv wr => ∃ i : Nat, i ≤ LV ∧ fv = .bool (anyF M ys i) ∧ iv = .int .i64 (i : Nat) ∧ Loc w wr [(gO, 41, opv h s), (gH, 27, #[.int .u32 (a : Int), .int .i64 p, .slice A n c, .int .i64 (ns : Int), .int .i64 wo, .int .i64 qu, .int .i64 tr])] []) (fun _ iv _ => LV - (intOf iv).toNat)
      case atStart => exact ⟨0, Nat.zero_le _, rfl, rfl, L⟩
      case round =>
        clear L
        obtain ⟨i, hi, rfl, rfl, L⟩ := hrel
        obtain ⟨fr, hfr⟩ : ∃ fr, anyF M ys i = fr := ⟨_, rfl⟩
        rw [hfr]
        by_cases hlt : i < LV
        · have hi65 : i ≤ 65536 := by have := hLV.out; omega
          have hiL : i < lv M := by have := hLV.out; omega
          have TT1 := TTo i hi65
          have TR1 := TRo i hi65
          clear TTo TRo
          have hct : lv M + i / 64 < m ∧ lv M + tv M < m := by unfold tv tq at hmt ⊢; omega
          obtain ⟨wT, hwT⟩ : ∃ x, gt ys (lv M + i / 64) = x := ⟨_, rfl⟩
          obtain ⟨wR, hwR⟩ : ∃ x, gt ys (lv M + tv M) = x := ⟨_, rfl⟩
          have hwT64 := gt_lt hU.fit (lv M + i / 64)
          have hwR64 := gt_lt hU.fit (lv M + tv M)
          rw [hwT] at hwT64
          rw [hwR] at hwR64
          have hfi : hf M ys i = (wT.testBit (i % 64) || wR.testBit (i / 64)) := by unfold hf; rw [hwT, hwR]
          have XT := hU.here hct.1
          have XR := hU.here hct.2
          rw [hwT] at XT
          rw [hwR] at XR
          have hrb64 : i / 64 < 64 := by omega
          have htb64 : i % 64 < 64 := by omega
          clear hwT hwR
          generalize lv M + i / 64 = cl at *
          generalize lv M + tv M = rc at *
          generalize i / 64 = rb at *
          generalize i % 64 = tb at *
          obtain ⟨hc1, hc2⟩ := hct
          have hc1i : (cl : Int) < (m : Int) := by omega
          have hc2i : (rc : Int) < (m : Int) := by omega
          have hlt2 : (i : Int) < (LV : Int) := by omega
          have THt := fun w => Lib.hid (rhas_any wT tb hwT64 htb64 w)
          have THr := fun w => Lib.hid (rhas_any wR rb hwR64 hrb64 w)
          cases hbT : wT.testBit tb
          rotate_left
          · cases fr
            · simp only [hbT] at THt
              have hff : hf M ys i = true := by rw [hfi, hbT]; rfl
              have hnx := Lib.hid (anyF_next hfr hff)
              have hie2 : ((i : Int) == (i0 : Int)) = false := by have h9 := hun.out; simp; intro e9; have e8 : i = i0 := (by omega); rw [← e8, hff] at h9; cases h9
              clear hfi hff hfr hbT
              go_wp2_with fail
              refine ((TLv _).out).mono ?_
              rintro e w' ⟨rfl, rfl⟩
              go_wp2_with fail
              refine ((TT1 _).out).mono ?_
              rintro e w' ⟨rfl, rfl⟩
              go_wp2_with fail
              refine ((TR1 _).out).mono ?_
              rintro e w' ⟨rfl, rfl⟩
              have X1 := (L.K.cell (p := ⟨bb, oo + cl, none⟩) hbb).trans XT
              go_wp2_with fail
              refine ((THt _).out).mono ?_
              rintro e w' ⟨rfl, rfl⟩
              clear X1
              go_upto_region 22 with (fail)
              replace L := L.drew
              refine wp_region_held_drew (S := fun w' => Loc w w' [(gO, 41, opv h s), (gH, 27, #[.int .u32 (a : Int), .int .i64 p, .slice A n c, .int .i64 (ns : Int), .int .i64 wo, .int .i64 qu, .int .i64 tr])] []) (by kernel_rfl) L (fun hHeld => ?_)
              generalize wr.drew = v7 at hHeld L ⊢
              refine wpAnyH_take (i := 0) (oi := ⟨some 105, _, _, _, _, _⟩) (v := .pointer (some ⟨gO, 8, none⟩)) rfl (by kernel_rfl) (by kernel_rfl) (by kernel_rfl) (fun _ _ _ h => h) (Or.inl ⟨by rfl, ?_⟩) hHeld ?_
              · intro ww hS
                try dsimp only at hS
                go_simp
                try with_reducible rfl
                try omega
              try simp only [Act.put, List.setIfInBounds_toArray, List.set_cons_zero, List.set_cons_succ]
              refine wpAnyH_take (i := 1) (oi := ⟨some 106, _, _, _, _, _⟩) (v := .int .i64 s.phase) rfl (by kernel_rfl) (by kernel_rfl) (by kernel_rfl) (fun _ _ _ h => h) (Or.inl ⟨by rfl, ?_⟩) hHeld ?_
              · intro ww hS
                try dsimp only at hS
                have O_8 := ((hS)).at_ 0 8 rfl (v := .int .i64 s.phase) rfl
                have O_z := ((hS)).lt 0 rfl
                go_simp
                try with_reducible rfl
                try omega
              try simp only [Act.put, List.setIfInBounds_toArray, List.set_cons_zero, List.set_cons_succ]
              refine wpAnyH_take (i := 2) (oi := ⟨some 107, _, _, _, _, _⟩) (v := .bool true) rfl (by kernel_rfl) (by kernel_rfl) (by kernel_rfl) (fun _ _ _ h => h) (Or.inl ⟨by rfl, ?_⟩) hHeld ?_
              · intro ww hS
                try dsimp only at hS
                go_simp
                try with_reducible rfl
                try omega
              try simp only [Act.put, List.setIfInBounds_toArray, List.set_cons_zero, List.set_cons_succ]
              refine wpAnyH_take (i := 3) (oi := ⟨some 108, _, _, _, _, _⟩) (v := .bool true) rfl (by kernel_rfl) (by kernel_rfl) (by kernel_rfl) (fun _ _ _ h => h) (Or.inl ⟨by rfl, ?_⟩) hHeld ?_
              · intro ww hS
                try dsimp only at hS
                go_simp
                try with_reducible rfl
                try omega
              try simp only [Act.put, List.setIfInBounds_toArray, List.set_cons_zero, List.set_cons_succ]
              refine wpAnyH_take (i := 4) (oi := ⟨some 109, _, _, _, _, _⟩) (v := .int .i64 (i : Int)) rfl (by kernel_rfl) (by kernel_rfl) (by kernel_rfl) (fun _ _ _ h => h) (Or.inl ⟨by rfl, ?_⟩) hHeld ?_
              · intro ww hS
                try dsimp only at hS
                go_simp
                try with_reducible rfl
                try omega
              try simp only [Act.put, List.setIfInBounds_toArray, List.set_cons_zero, List.set_cons_succ]
              refine wpAnyH_take (i := 5) (oi := ⟨some 110, _, _, _, _, _⟩) (v := .pointer (some ⟨gO, 11, none⟩)) rfl (by kernel_rfl) (by kernel_rfl) (by kernel_rfl) (fun _ _ _ h => h) (Or.inl ⟨by rfl, ?_⟩) hHeld ?_
              · intro ww hS
                try dsimp only at hS
                go_simp
                try with_reducible rfl
                try omega
              try simp only [Act.put, List.setIfInBounds_toArray, List.set_cons_zero, List.set_cons_succ]
              refine wpAnyH_take (i := 6) (oi := ⟨some 111, _, _, _, _, _⟩) (v := .int .i64 (i0 : Int)) rfl (by kernel_rfl) (by kernel_rfl) (by kernel_rfl) (fun _ _ _ h => h) (Or.inl ⟨by rfl, ?_⟩) hHeld ?_
              · intro ww hS
                try dsimp only at hS
                have O_11 := ((hS)).at_ 0 11 rfl (v := .int .i64 (i0 : Int)) (by show some (Value.int .i64 s.leaf) = _; rw [hlf])
                have O_z := ((hS)).lt 0 rfl
                go_simp
                try with_reducible rfl
                try omega
              try simp only [Act.put, List.setIfInBounds_toArray, List.set_cons_zero, List.set_cons_succ]
              refine wpAnyH_take (i := 7) (oi := ⟨some 112, _, _, _, _, _⟩) (v := .bool false) rfl (by kernel_rfl) (by kernel_rfl) (by kernel_rfl) (fun _ _ _ h => h) (Or.inl ⟨by rfl, ?_⟩) hHeld ?_
              · intro ww hS
                try dsimp only at hS
                go_simp
                try with_reducible rfl
                try omega
              try simp only [Act.put, List.setIfInBounds_toArray, List.set_cons_zero, List.set_cons_succ]
              refine wpAnyH_take (i := 8) (oi := ⟨some 113, _, _, _, _, _⟩) (v := .bool false) rfl (by kernel_rfl) (by kernel_rfl) (by kernel_rfl) (fun _ _ _ h => h) (Or.inl ⟨by rfl, ?_⟩) hHeld ?_
              · intro ww hS
                try dsimp only at hS
                go_simp
                try with_reducible rfl
                try omega
              try simp only [Act.put, List.setIfInBounds_toArray, List.set_cons_zero, List.set_cons_succ]
              refine wpAnyH_take (i := 9) (oi := ⟨some 114, _, _, _, _, _⟩) (v := .bool false) rfl (by kernel_rfl) (by kernel_rfl) (by kernel_rfl) (fun _ _ _ h => h) (Or.inl ⟨by rfl, ?_⟩) hHeld ?_
              · intro ww hS
                try dsimp only at hS
                go_simp
                try with_reducible rfl
                try omega
              try simp only [Act.put, List.setIfInBounds_toArray, List.set_cons_zero, List.set_cons_succ]
              refine wpAnyH_take (i := 10) (oi := ⟨some 115, _, _, _, _, _⟩) (v := undef) rfl (by kernel_rfl) (by kernel_rfl) (by kernel_rfl) (fun _ _ _ h => h) (Or.inr ⟨by rfl, rfl⟩) hHeld ?_
              try simp only [Act.put, List.setIfInBounds_toArray, List.set_cons_zero, List.set_cons_succ]
              refine wpAnyH_take (i := 11) (oi := ⟨some 116, _, _, _, _, _⟩) (v := undef) rfl (by kernel_rfl) (by kernel_rfl) (by kernel_rfl) (fun _ _ _ h => h) (Or.inr ⟨by rfl, rfl⟩) hHeld ?_
              try simp only [Act.put, List.setIfInBounds_toArray, List.set_cons_zero, List.set_cons_succ]
              refine wpAnyH_take (i := 12) (oi := ⟨some 117, _, _, _, _, _⟩) (v := undef) rfl (by kernel_rfl) (by kernel_rfl) (by kernel_rfl) (fun _ _ _ h => h) (Or.inr ⟨by rfl, rfl⟩) hHeld ?_
              try simp only [Act.put, List.setIfInBounds_toArray, List.set_cons_zero, List.set_cons_succ]
              refine wpAnyH_take (i := 13) (oi := ⟨some 118, _, _, _, _, _⟩) (v := undef) rfl (by kernel_rfl) (by kernel_rfl) (by kernel_rfl) (fun _ _ _ h => h) (Or.inr ⟨by rfl, rfl⟩) hHeld ?_
              try simp only [Act.put, List.setIfInBounds_toArray, List.set_cons_zero, List.set_cons_succ]
              refine wpAnyH_take (i := 14) (oi := ⟨some 119, _, _, _, _, _⟩) (v := undef) rfl (by kernel_rfl) (by kernel_rfl) (by kernel_rfl) (fun _ _ _ h => h) (Or.inr ⟨by rfl, rfl⟩) hHeld ?_
              try simp only [Act.put, List.setIfInBounds_toArray, List.set_cons_zero, List.set_cons_succ]
              refine wpAnyH_take (i := 15) (oi := ⟨some 120, _, _, _, _, _⟩) (v := undef) rfl (by kernel_rfl) (by kernel_rfl) (by kernel_rfl) (fun _ _ _ h => h) (Or.inr ⟨by rfl, rfl⟩) hHeld ?_
              try simp only [Act.put, List.setIfInBounds_toArray, List.set_cons_zero, List.set_cons_succ]
              refine wpAnyH_take (i := 16) (oi := ⟨some 121, _, _, _, _, _⟩) (v := undef) rfl (by kernel_rfl) (by kernel_rfl) (by kernel_rfl) (fun _ _ _ h => h) (Or.inr ⟨by rfl, rfl⟩) hHeld ?_
              try simp only [Act.put, List.setIfInBounds_toArray, List.set_cons_zero, List.set_cons_succ]
              refine wpAnyH_take (i := 18) (oi := ⟨some 123, _, _, _, _, _⟩) (v := undef) rfl (by kernel_rfl) (by kernel_rfl) (by kernel_rfl) (fun _ _ _ h => h) (Or.inr ⟨by rfl, rfl⟩) hHeld ?_
              try simp only [Act.put, List.setIfInBounds_toArray, List.set_cons_zero, List.set_cons_succ]
              refine wpAnyH_take (i := 19) (oi := ⟨some 124, _, _, _, _, _⟩) (v := undef) rfl (by kernel_rfl) (by kernel_rfl) (by kernel_rfl) (fun _ _ _ h => h) (Or.inr ⟨by rfl, rfl⟩) hHeld ?_
              try simp only [Act.put, List.setIfInBounds_toArray, List.set_cons_zero, List.set_cons_succ]
              refine wpAnyH_take (i := 20) (oi := ⟨some 125, _, _, _, _, _⟩) (v := undef) rfl (by kernel_rfl) (by kernel_rfl) (by kernel_rfl) (fun _ _ _ h => h) (Or.inr ⟨by rfl, rfl⟩) hHeld ?_
              try simp only [Act.put, List.setIfInBounds_toArray, List.set_cons_zero, List.set_cons_succ]
              refine wpAnyH_take (i := 21) (oi := ⟨some 126, _, _, _, _, _⟩) (v := undef) rfl (by kernel_rfl) (by kernel_rfl) (by kernel_rfl) (fun _ _ _ h => h) (Or.inr ⟨by rfl, rfl⟩) hHeld ?_
              try simp only [Act.put, List.setIfInBounds_toArray, List.set_cons_zero, List.set_cons_succ]
              refine wpAnyH_take (i := 22) (oi := ⟨some 127, _, _, _, _, _⟩) (v := undef) rfl (by kernel_rfl) (by kernel_rfl) (by kernel_rfl) (fun _ _ _ h => h) (Or.inr ⟨by rfl, rfl⟩) hHeld ?_
              try simp only [Act.put, List.setIfInBounds_toArray, List.set_cons_zero, List.set_cons_succ]
              refine wpAnyH_take (i := 23) (oi := ⟨some 128, _, _, _, _, _⟩) (v := undef) rfl (by kernel_rfl) (by kernel_rfl) (by kernel_rfl) (fun _ _ _ h => h) (Or.inr ⟨by rfl, rfl⟩) hHeld ?_
              try simp only [Act.put, List.setIfInBounds_toArray, List.set_cons_zero, List.set_cons_succ]
              refine wpAnyH_take (i := 24) (oi := ⟨some 129, _, _, _, _, _⟩) (v := undef) rfl (by kernel_rfl) (by kernel_rfl) (by kernel_rfl) (fun _ _ _ h => h) (Or.inr ⟨by rfl, rfl⟩) hHeld ?_
              try simp only [Act.put, List.setIfInBounds_toArray, List.set_cons_zero, List.set_cons_succ]
              refine wpAnyH_take (i := 17) (oi := ⟨some 122, _, _, _, _, _⟩) (v := undef) rfl (by kernel_rfl) (by kernel_rfl) (by kernel_rfl) (fun _ _ _ h => h) (Or.inr ⟨by rfl, rfl⟩) hHeld ?_
              try simp only [Act.put, List.setIfInBounds_toArray, List.set_cons_zero, List.set_cons_succ]
              refine wpAnyH_take (i := 25) (oi := ⟨some 130, _, _, _, _, _⟩) (v := undef) rfl (by kernel_rfl) (by kernel_rfl) (by kernel_rfl) (fun _ _ _ h => h) (Or.inr ⟨by rfl, rfl⟩) hHeld ?_
              try simp only [Act.put, List.setIfInBounds_toArray, List.set_cons_zero, List.set_cons_succ]
              refine wpAnyH_take (i := 26) (oi := ⟨some 131, _, _, _, _, _⟩) (v := undef) rfl (by kernel_rfl) (by kernel_rfl) (by kernel_rfl) (fun _ _ _ h => h) (Or.inr ⟨by rfl, rfl⟩) hHeld ?_
              try simp only [Act.put, List.setIfInBounds_toArray, List.set_cons_zero, List.set_cons_succ]
              refine wpAnyH_take (i := 27) (oi := ⟨some 132, _, _, _, _, _⟩) (v := undef) rfl (by kernel_rfl) (by kernel_rfl) (by kernel_rfl) (fun _ _ _ h => h) (Or.inr ⟨by rfl, rfl⟩) hHeld ?_
              try simp only [Act.put, List.setIfInBounds_toArray, List.set_cons_zero, List.set_cons_succ]
              refine wpAnyH_take (i := 28) (oi := ⟨some 133, _, _, _, _, _⟩) (v := .bool false) rfl (by kernel_rfl) (by kernel_rfl) (by kernel_rfl) (fun _ _ _ h => h) (Or.inl ⟨by rfl, ?_⟩) hHeld ?_
              · intro ww hS
                try dsimp only at hS
                go_simp
                try with_reducible rfl
                try omega
              try simp only [Act.put, List.setIfInBounds_toArray, List.set_cons_zero, List.set_cons_succ]
              refine wpAnyH_done (by kernel_rfl) ?_ _
              clear hHeld
              go_wp2
              go_roundw
              case rel => exact ⟨i + 1, by omega, by rw [hnx.out]; rfl, by go_num, L⟩
              case measure => simp [intOf]; omega
            · simp only [hbT] at THt
              have hff : hf M ys i = true := by rw [hfi, hbT]; rfl
              have hnx := Lib.hid (anyF_next hfr hff)
              have hie2 : ((i : Int) == (i0 : Int)) = false := by have h9 := hun.out; simp; intro e9; have e8 : i = i0 := (by omega); rw [← e8, hff] at h9; cases h9
              clear hfi hff hfr hbT
              go_wp2_with fail
              refine ((TLv _).out).mono ?_
              rintro e w' ⟨rfl, rfl⟩
              go_wp2_with fail
              refine ((TT1 _).out).mono ?_
              rintro e w' ⟨rfl, rfl⟩
              go_wp2_with fail
              refine ((TR1 _).out).mono ?_
              rintro e w' ⟨rfl, rfl⟩
              have X1 := (L.K.cell (p := ⟨bb, oo + cl, none⟩) hbb).trans XT
              go_wp2_with fail
              refine ((THt _).out).mono ?_
              rintro e w' ⟨rfl, rfl⟩
              clear X1
              go_upto_region 22 with (fail)
              replace L := L.drew
              refine wp_region_held_drew (S := fun w' => Loc w w' [(gO, 41, opv h s), (gH, 27, #[.int .u32 (a : Int), .int .i64 p, .slice A n c, .int .i64 (ns : Int), .int .i64 wo, .int .i64 qu, .int .i64 tr])] []) (by kernel_rfl) L (fun hHeld => ?_)
              generalize wr.drew = v7 at hHeld L ⊢
              refine wpAnyH_take (i := 0) (oi := ⟨some 105, _, _, _, _, _⟩) (v := .pointer (some ⟨gO, 8, none⟩)) rfl (by kernel_rfl) (by kernel_rfl) (by kernel_rfl) (fun _ _ _ h => h) (Or.inl ⟨by rfl, ?_⟩) hHeld ?_
              · intro ww hS
                try dsimp only at hS
                go_simp
                try with_reducible rfl
                try omega
              try simp only [Act.put, List.setIfInBounds_toArray, List.set_cons_zero, List.set_cons_succ]
              refine wpAnyH_take (i := 1) (oi := ⟨some 106, _, _, _, _, _⟩) (v := .int .i64 s.phase) rfl (by kernel_rfl) (by kernel_rfl) (by kernel_rfl) (fun _ _ _ h => h) (Or.inl ⟨by rfl, ?_⟩) hHeld ?_
              · intro ww hS
                try dsimp only at hS
                have O_8 := ((hS)).at_ 0 8 rfl (v := .int .i64 s.phase) rfl
                have O_z := ((hS)).lt 0 rfl
                go_simp
                try with_reducible rfl
                try omega
              try simp only [Act.put, List.setIfInBounds_toArray, List.set_cons_zero, List.set_cons_succ]
              refine wpAnyH_take (i := 2) (oi := ⟨some 107, _, _, _, _, _⟩) (v := .bool true) rfl (by kernel_rfl) (by kernel_rfl) (by kernel_rfl) (fun _ _ _ h => h) (Or.inl ⟨by rfl, ?_⟩) hHeld ?_
              · intro ww hS
                try dsimp only at hS
                go_simp
                try with_reducible rfl
                try omega
              try simp only [Act.put, List.setIfInBounds_toArray, List.set_cons_zero, List.set_cons_succ]
              refine wpAnyH_take (i := 3) (oi := ⟨some 108, _, _, _, _, _⟩) (v := .bool true) rfl (by kernel_rfl) (by kernel_rfl) (by kernel_rfl) (fun _ _ _ h => h) (Or.inl ⟨by rfl, ?_⟩) hHeld ?_
              · intro ww hS
                try dsimp only at hS
                go_simp
                try with_reducible rfl
                try omega
              try simp only [Act.put, List.setIfInBounds_toArray, List.set_cons_zero, List.set_cons_succ]
              refine wpAnyH_take (i := 4) (oi := ⟨some 109, _, _, _, _, _⟩) (v := .int .i64 (i : Int)) rfl (by kernel_rfl) (by kernel_rfl) (by kernel_rfl) (fun _ _ _ h => h) (Or.inl ⟨by rfl, ?_⟩) hHeld ?_
              · intro ww hS
                try dsimp only at hS
                go_simp
                try with_reducible rfl
                try omega
              try simp only [Act.put, List.setIfInBounds_toArray, List.set_cons_zero, List.set_cons_succ]
              refine wpAnyH_take (i := 5) (oi := ⟨some 110, _, _, _, _, _⟩) (v := .pointer (some ⟨gO, 11, none⟩)) rfl (by kernel_rfl) (by kernel_rfl) (by kernel_rfl) (fun _ _ _ h => h) (Or.inl ⟨by rfl, ?_⟩) hHeld ?_
              · intro ww hS
                try dsimp only at hS
                go_simp
                try with_reducible rfl
                try omega
              try simp only [Act.put, List.setIfInBounds_toArray, List.set_cons_zero, List.set_cons_succ]
              refine wpAnyH_take (i := 6) (oi := ⟨some 111, _, _, _, _, _⟩) (v := .int .i64 (i0 : Int)) rfl (by kernel_rfl) (by kernel_rfl) (by kernel_rfl) (fun _ _ _ h => h) (Or.inl ⟨by rfl, ?_⟩) hHeld ?_
              · intro ww hS
                try dsimp only at hS
                have O_11 := ((hS)).at_ 0 11 rfl (v := .int .i64 (i0 : Int)) (by show some (Value.int .i64 s.leaf) = _; rw [hlf])
                have O_z := ((hS)).lt 0 rfl
                go_simp
                try with_reducible rfl
                try omega
              try simp only [Act.put, List.setIfInBounds_toArray, List.set_cons_zero, List.set_cons_succ]
              refine wpAnyH_take (i := 7) (oi := ⟨some 112, _, _, _, _, _⟩) (v := .bool false) rfl (by kernel_rfl) (by kernel_rfl) (by kernel_rfl) (fun _ _ _ h => h) (Or.inl ⟨by rfl, ?_⟩) hHeld ?_
              · intro ww hS
                try dsimp only at hS
                go_simp
                try with_reducible rfl
                try omega
              try simp only [Act.put, List.setIfInBounds_toArray, List.set_cons_zero, List.set_cons_succ]
              refine wpAnyH_take (i := 8) (oi := ⟨some 113, _, _, _, _, _⟩) (v := .bool false) rfl (by kernel_rfl) (by kernel_rfl) (by kernel_rfl) (fun _ _ _ h => h) (Or.inl ⟨by rfl, ?_⟩) hHeld ?_
              · intro ww hS
                try dsimp only at hS
                go_simp
                try with_reducible rfl
                try omega
              try simp only [Act.put, List.setIfInBounds_toArray, List.set_cons_zero, List.set_cons_succ]
              refine wpAnyH_take (i := 9) (oi := ⟨some 114, _, _, _, _, _⟩) (v := .bool false) rfl (by kernel_rfl) (by kernel_rfl) (by kernel_rfl) (fun _ _ _ h => h) (Or.inl ⟨by rfl, ?_⟩) hHeld ?_
              · intro ww hS
                try dsimp only at hS
                go_simp
                try with_reducible rfl
                try omega
              try simp only [Act.put, List.setIfInBounds_toArray, List.set_cons_zero, List.set_cons_succ]
              refine wpAnyH_take (i := 10) (oi := ⟨some 115, _, _, _, _, _⟩) (v := undef) rfl (by kernel_rfl) (by kernel_rfl) (by kernel_rfl) (fun _ _ _ h => h) (Or.inr ⟨by rfl, rfl⟩) hHeld ?_
              try simp only [Act.put, List.setIfInBounds_toArray, List.set_cons_zero, List.set_cons_succ]
              refine wpAnyH_take (i := 11) (oi := ⟨some 116, _, _, _, _, _⟩) (v := undef) rfl (by kernel_rfl) (by kernel_rfl) (by kernel_rfl) (fun _ _ _ h => h) (Or.inr ⟨by rfl, rfl⟩) hHeld ?_
              try simp only [Act.put, List.setIfInBounds_toArray, List.set_cons_zero, List.set_cons_succ]
              refine wpAnyH_take (i := 12) (oi := ⟨some 117, _, _, _, _, _⟩) (v := undef) rfl (by kernel_rfl) (by kernel_rfl) (by kernel_rfl) (fun _ _ _ h => h) (Or.inr ⟨by rfl, rfl⟩) hHeld ?_
              try simp only [Act.put, List.setIfInBounds_toArray, List.set_cons_zero, List.set_cons_succ]
              refine wpAnyH_take (i := 13) (oi := ⟨some 118, _, _, _, _, _⟩) (v := undef) rfl (by kernel_rfl) (by kernel_rfl) (by kernel_rfl) (fun _ _ _ h => h) (Or.inr ⟨by rfl, rfl⟩) hHeld ?_
              try simp only [Act.put, List.setIfInBounds_toArray, List.set_cons_zero, List.set_cons_succ]
              refine wpAnyH_take (i := 14) (oi := ⟨some 119, _, _, _, _, _⟩) (v := undef) rfl (by kernel_rfl) (by kernel_rfl) (by kernel_rfl) (fun _ _ _ h => h) (Or.inr ⟨by rfl, rfl⟩) hHeld ?_
              try simp only [Act.put, List.setIfInBounds_toArray, List.set_cons_zero, List.set_cons_succ]
              refine wpAnyH_take (i := 15) (oi := ⟨some 120, _, _, _, _, _⟩) (v := undef) rfl (by kernel_rfl) (by kernel_rfl) (by kernel_rfl) (fun _ _ _ h => h) (Or.inr ⟨by rfl, rfl⟩) hHeld ?_
              try simp only [Act.put, List.setIfInBounds_toArray, List.set_cons_zero, List.set_cons_succ]
              refine wpAnyH_take (i := 16) (oi := ⟨some 121, _, _, _, _, _⟩) (v := undef) rfl (by kernel_rfl) (by kernel_rfl) (by kernel_rfl) (fun _ _ _ h => h) (Or.inr ⟨by rfl, rfl⟩) hHeld ?_
              try simp only [Act.put, List.setIfInBounds_toArray, List.set_cons_zero, List.set_cons_succ]
              refine wpAnyH_take (i := 18) (oi := ⟨some 123, _, _, _, _, _⟩) (v := undef) rfl (by kernel_rfl) (by kernel_rfl) (by kernel_rfl) (fun _ _ _ h => h) (Or.inr ⟨by rfl, rfl⟩) hHeld ?_
              try simp only [Act.put, List.setIfInBounds_toArray, List.set_cons_zero, List.set_cons_succ]
              refine wpAnyH_take (i := 19) (oi := ⟨some 124, _, _, _, _, _⟩) (v := undef) rfl (by kernel_rfl) (by kernel_rfl) (by kernel_rfl) (fun _ _ _ h => h) (Or.inr ⟨by rfl, rfl⟩) hHeld ?_
              try simp only [Act.put, List.setIfInBounds_toArray, List.set_cons_zero, List.set_cons_succ]
              refine wpAnyH_take (i := 20) (oi := ⟨some 125, _, _, _, _, _⟩) (v := undef) rfl (by kernel_rfl) (by kernel_rfl) (by kernel_rfl) (fun _ _ _ h => h) (Or.inr ⟨by rfl, rfl⟩) hHeld ?_
              try simp only [Act.put, List.setIfInBounds_toArray, List.set_cons_zero, List.set_cons_succ]
              refine wpAnyH_take (i := 21) (oi := ⟨some 126, _, _, _, _, _⟩) (v := undef) rfl (by kernel_rfl) (by kernel_rfl) (by kernel_rfl) (fun _ _ _ h => h) (Or.inr ⟨by rfl, rfl⟩) hHeld ?_
              try simp only [Act.put, List.setIfInBounds_toArray, List.set_cons_zero, List.set_cons_succ]
              refine wpAnyH_take (i := 22) (oi := ⟨some 127, _, _, _, _, _⟩) (v := undef) rfl (by kernel_rfl) (by kernel_rfl) (by kernel_rfl) (fun _ _ _ h => h) (Or.inr ⟨by rfl, rfl⟩) hHeld ?_
              try simp only [Act.put, List.setIfInBounds_toArray, List.set_cons_zero, List.set_cons_succ]
              refine wpAnyH_take (i := 23) (oi := ⟨some 128, _, _, _, _, _⟩) (v := undef) rfl (by kernel_rfl) (by kernel_rfl) (by kernel_rfl) (fun _ _ _ h => h) (Or.inr ⟨by rfl, rfl⟩) hHeld ?_
              try simp only [Act.put, List.setIfInBounds_toArray, List.set_cons_zero, List.set_cons_succ]
              refine wpAnyH_take (i := 24) (oi := ⟨some 129, _, _, _, _, _⟩) (v := undef) rfl (by kernel_rfl) (by kernel_rfl) (by kernel_rfl) (fun _ _ _ h => h) (Or.inr ⟨by rfl, rfl⟩) hHeld ?_
              try simp only [Act.put, List.setIfInBounds_toArray, List.set_cons_zero, List.set_cons_succ]
              refine wpAnyH_take (i := 17) (oi := ⟨some 122, _, _, _, _, _⟩) (v := undef) rfl (by kernel_rfl) (by kernel_rfl) (by kernel_rfl) (fun _ _ _ h => h) (Or.inr ⟨by rfl, rfl⟩) hHeld ?_
              try simp only [Act.put, List.setIfInBounds_toArray, List.set_cons_zero, List.set_cons_succ]
              refine wpAnyH_take (i := 25) (oi := ⟨some 130, _, _, _, _, _⟩) (v := undef) rfl (by kernel_rfl) (by kernel_rfl) (by kernel_rfl) (fun _ _ _ h => h) (Or.inr ⟨by rfl, rfl⟩) hHeld ?_
              try simp only [Act.put, List.setIfInBounds_toArray, List.set_cons_zero, List.set_cons_succ]
              refine wpAnyH_take (i := 26) (oi := ⟨some 131, _, _, _, _, _⟩) (v := undef) rfl (by kernel_rfl) (by kernel_rfl) (by kernel_rfl) (fun _ _ _ h => h) (Or.inr ⟨by rfl, rfl⟩) hHeld ?_
              try simp only [Act.put, List.setIfInBounds_toArray, List.set_cons_zero, List.set_cons_succ]
              refine wpAnyH_take (i := 27) (oi := ⟨some 132, _, _, _, _, _⟩) (v := undef) rfl (by kernel_rfl) (by kernel_rfl) (by kernel_rfl) (fun _ _ _ h => h) (Or.inr ⟨by rfl, rfl⟩) hHeld ?_
              try simp only [Act.put, List.setIfInBounds_toArray, List.set_cons_zero, List.set_cons_succ]
              refine wpAnyH_take (i := 28) (oi := ⟨some 133, _, _, _, _, _⟩) (v := .bool false) rfl (by kernel_rfl) (by kernel_rfl) (by kernel_rfl) (fun _ _ _ h => h) (Or.inl ⟨by rfl, ?_⟩) hHeld ?_
              · intro ww hS
                try dsimp only at hS
                go_simp
                try with_reducible rfl
                try omega
              try simp only [Act.put, List.setIfInBounds_toArray, List.set_cons_zero, List.set_cons_succ]
              refine wpAnyH_done (by kernel_rfl) ?_ _
              clear hHeld
              go_wp2
              go_roundw
              case rel => exact ⟨i + 1, by omega, by rw [hnx.out]; rfl, by go_num, L⟩
              case measure => simp [intOf]; omega
          cases hbR : wR.testBit rb
          rotate_left
          · cases fr
            · simp only [hbT] at THt
              simp only [hbR] at THr
              have hff : hf M ys i = true := by rw [hfi, hbT, hbR]; rfl
              have hnx := Lib.hid (anyF_next hfr hff)
              have hie2 : ((i : Int) == (i0 : Int)) = false := by have h9 := hun.out; simp; intro e9; have e8 : i = i0 := (by omega); rw [← e8, hff] at h9; cases h9
              clear hfi hff hfr hbT hbR
              go_wp2_with fail
              refine ((TLv _).out).mono ?_
              rintro e w' ⟨rfl, rfl⟩
              go_wp2_with fail
              refine ((TT1 _).out).mono ?_
              rintro e w' ⟨rfl, rfl⟩
              go_wp2_with fail
              refine ((TR1 _).out).mono ?_
              rintro e w' ⟨rfl, rfl⟩
              have X1 := (L.K.cell (p := ⟨bb, oo + cl, none⟩) hbb).trans XT
              go_wp2_with fail
              refine ((THt _).out).mono ?_
              rintro e w' ⟨rfl, rfl⟩
              clear X1
              have X2 := (L.K.cell (p := ⟨bb, oo + rc, none⟩) hbb).trans XR
              go_wp2_with fail
              refine ((THr _).out).mono ?_
              rintro e w' ⟨rfl, rfl⟩
              clear X2
              go_upto_region 22 with (fail)
              replace L := L.drew
              refine wp_region_held_drew (S := fun w' => Loc w w' [(gO, 41, opv h s), (gH, 27, #[.int .u32 (a : Int), .int .i64 p, .slice A n c, .int .i64 (ns : Int), .int .i64 wo, .int .i64 qu, .int .i64 tr])] []) (by kernel_rfl) L (fun hHeld => ?_)
              generalize wr.drew = v7 at hHeld L ⊢
              refine wpAnyH_take (i := 0) (oi := ⟨some 105, _, _, _, _, _⟩) (v := .pointer (some ⟨gO, 8, none⟩)) rfl (by kernel_rfl) (by kernel_rfl) (by kernel_rfl) (fun _ _ _ h => h) (Or.inl ⟨by rfl, ?_⟩) hHeld ?_
              · intro ww hS
                try dsimp only at hS
                go_simp
                try with_reducible rfl
                try omega
              try simp only [Act.put, List.setIfInBounds_toArray, List.set_cons_zero, List.set_cons_succ]
              refine wpAnyH_take (i := 1) (oi := ⟨some 106, _, _, _, _, _⟩) (v := .int .i64 s.phase) rfl (by kernel_rfl) (by kernel_rfl) (by kernel_rfl) (fun _ _ _ h => h) (Or.inl ⟨by rfl, ?_⟩) hHeld ?_
              · intro ww hS
                try dsimp only at hS
                have O_8 := ((hS)).at_ 0 8 rfl (v := .int .i64 s.phase) rfl
                have O_z := ((hS)).lt 0 rfl
                go_simp
                try with_reducible rfl
                try omega
              try simp only [Act.put, List.setIfInBounds_toArray, List.set_cons_zero, List.set_cons_succ]
              refine wpAnyH_take (i := 2) (oi := ⟨some 107, _, _, _, _, _⟩) (v := .bool true) rfl (by kernel_rfl) (by kernel_rfl) (by kernel_rfl) (fun _ _ _ h => h) (Or.inl ⟨by rfl, ?_⟩) hHeld ?_
              · intro ww hS
                try dsimp only at hS
                go_simp
                try with_reducible rfl
                try omega
              try simp only [Act.put, List.setIfInBounds_toArray, List.set_cons_zero, List.set_cons_succ]
              refine wpAnyH_take (i := 3) (oi := ⟨some 108, _, _, _, _, _⟩) (v := .bool true) rfl (by kernel_rfl) (by kernel_rfl) (by kernel_rfl) (fun _ _ _ h => h) (Or.inl ⟨by rfl, ?_⟩) hHeld ?_
              · intro ww hS
                try dsimp only at hS
                go_simp
                try with_reducible rfl
                try omega
              try simp only [Act.put, List.setIfInBounds_toArray, List.set_cons_zero, List.set_cons_succ]
              refine wpAnyH_take (i := 4) (oi := ⟨some 109, _, _, _, _, _⟩) (v := .int .i64 (i : Int)) rfl (by kernel_rfl) (by kernel_rfl) (by kernel_rfl) (fun _ _ _ h => h) (Or.inl ⟨by rfl, ?_⟩) hHeld ?_
              · intro ww hS
                try dsimp only at hS
                go_simp
                try with_reducible rfl
                try omega
              try simp only [Act.put, List.setIfInBounds_toArray, List.set_cons_zero, List.set_cons_succ]
              refine wpAnyH_take (i := 5) (oi := ⟨some 110, _, _, _, _, _⟩) (v := .pointer (some ⟨gO, 11, none⟩)) rfl (by kernel_rfl) (by kernel_rfl) (by kernel_rfl) (fun _ _ _ h => h) (Or.inl ⟨by rfl, ?_⟩) hHeld ?_
              · intro ww hS
                try dsimp only at hS
                go_simp
                try with_reducible rfl
                try omega
              try simp only [Act.put, List.setIfInBounds_toArray, List.set_cons_zero, List.set_cons_succ]
              refine wpAnyH_take (i := 6) (oi := ⟨some 111, _, _, _, _, _⟩) (v := .int .i64 (i0 : Int)) rfl (by kernel_rfl) (by kernel_rfl) (by kernel_rfl) (fun _ _ _ h => h) (Or.inl ⟨by rfl, ?_⟩) hHeld ?_
              · intro ww hS
                try dsimp only at hS
                have O_11 := ((hS)).at_ 0 11 rfl (v := .int .i64 (i0 : Int)) (by show some (Value.int .i64 s.leaf) = _; rw [hlf])
                have O_z := ((hS)).lt 0 rfl
                go_simp
                try with_reducible rfl
                try omega
              try simp only [Act.put, List.setIfInBounds_toArray, List.set_cons_zero, List.set_cons_succ]
              refine wpAnyH_take (i := 7) (oi := ⟨some 112, _, _, _, _, _⟩) (v := .bool false) rfl (by kernel_rfl) (by kernel_rfl) (by kernel_rfl) (fun _ _ _ h => h) (Or.inl ⟨by rfl, ?_⟩) hHeld ?_
              · intro ww hS
                try dsimp only at hS
                go_simp
                try with_reducible rfl
                try omega
              try simp only [Act.put, List.setIfInBounds_toArray, List.set_cons_zero, List.set_cons_succ]
              refine wpAnyH_take (i := 8) (oi := ⟨some 113, _, _, _, _, _⟩) (v := .bool false) rfl (by kernel_rfl) (by kernel_rfl) (by kernel_rfl) (fun _ _ _ h => h) (Or.inl ⟨by rfl, ?_⟩) hHeld ?_
              · intro ww hS
                try dsimp only at hS
                go_simp
                try with_reducible rfl
                try omega
              try simp only [Act.put, List.setIfInBounds_toArray, List.set_cons_zero, List.set_cons_succ]
              refine wpAnyH_take (i := 9) (oi := ⟨some 114, _, _, _, _, _⟩) (v := .bool false) rfl (by kernel_rfl) (by kernel_rfl) (by kernel_rfl) (fun _ _ _ h => h) (Or.inl ⟨by rfl, ?_⟩) hHeld ?_
              · intro ww hS
                try dsimp only at hS
                go_simp
                try with_reducible rfl
                try omega
              try simp only [Act.put, List.setIfInBounds_toArray, List.set_cons_zero, List.set_cons_succ]
              refine wpAnyH_take (i := 10) (oi := ⟨some 115, _, _, _, _, _⟩) (v := undef) rfl (by kernel_rfl) (by kernel_rfl) (by kernel_rfl) (fun _ _ _ h => h) (Or.inr ⟨by rfl, rfl⟩) hHeld ?_
              try simp only [Act.put, List.setIfInBounds_toArray, List.set_cons_zero, List.set_cons_succ]
              refine wpAnyH_take (i := 11) (oi := ⟨some 116, _, _, _, _, _⟩) (v := undef) rfl (by kernel_rfl) (by kernel_rfl) (by kernel_rfl) (fun _ _ _ h => h) (Or.inr ⟨by rfl, rfl⟩) hHeld ?_
              try simp only [Act.put, List.setIfInBounds_toArray, List.set_cons_zero, List.set_cons_succ]
              refine wpAnyH_take (i := 12) (oi := ⟨some 117, _, _, _, _, _⟩) (v := undef) rfl (by kernel_rfl) (by kernel_rfl) (by kernel_rfl) (fun _ _ _ h => h) (Or.inr ⟨by rfl, rfl⟩) hHeld ?_
              try simp only [Act.put, List.setIfInBounds_toArray, List.set_cons_zero, List.set_cons_succ]
              refine wpAnyH_take (i := 13) (oi := ⟨some 118, _, _, _, _, _⟩) (v := undef) rfl (by kernel_rfl) (by kernel_rfl) (by kernel_rfl) (fun _ _ _ h => h) (Or.inr ⟨by rfl, rfl⟩) hHeld ?_
              try simp only [Act.put, List.setIfInBounds_toArray, List.set_cons_zero, List.set_cons_succ]
              refine wpAnyH_take (i := 14) (oi := ⟨some 119, _, _, _, _, _⟩) (v := undef) rfl (by kernel_rfl) (by kernel_rfl) (by kernel_rfl) (fun _ _ _ h => h) (Or.inr ⟨by rfl, rfl⟩) hHeld ?_
              try simp only [Act.put, List.setIfInBounds_toArray, List.set_cons_zero, List.set_cons_succ]
              refine wpAnyH_take (i := 15) (oi := ⟨some 120, _, _, _, _, _⟩) (v := undef) rfl (by kernel_rfl) (by kernel_rfl) (by kernel_rfl) (fun _ _ _ h => h) (Or.inr ⟨by rfl, rfl⟩) hHeld ?_
              try simp only [Act.put, List.setIfInBounds_toArray, List.set_cons_zero, List.set_cons_succ]
              refine wpAnyH_take (i := 16) (oi := ⟨some 121, _, _, _, _, _⟩) (v := undef) rfl (by kernel_rfl) (by kernel_rfl) (by kernel_rfl) (fun _ _ _ h => h) (Or.inr ⟨by rfl, rfl⟩) hHeld ?_
              try simp only [Act.put, List.setIfInBounds_toArray, List.set_cons_zero, List.set_cons_succ]
              refine wpAnyH_take (i := 18) (oi := ⟨some 123, _, _, _, _, _⟩) (v := undef) rfl (by kernel_rfl) (by kernel_rfl) (by kernel_rfl) (fun _ _ _ h => h) (Or.inr ⟨by rfl, rfl⟩) hHeld ?_
              try simp only [Act.put, List.setIfInBounds_toArray, List.set_cons_zero, List.set_cons_succ]
              refine wpAnyH_take (i := 19) (oi := ⟨some 124, _, _, _, _, _⟩) (v := undef) rfl (by kernel_rfl) (by kernel_rfl) (by kernel_rfl) (fun _ _ _ h => h) (Or.inr ⟨by rfl, rfl⟩) hHeld ?_
              try simp only [Act.put, List.setIfInBounds_toArray, List.set_cons_zero, List.set_cons_succ]
              refine wpAnyH_take (i := 20) (oi := ⟨some 125, _, _, _, _, _⟩) (v := undef) rfl (by kernel_rfl) (by kernel_rfl) (by kernel_rfl) (fun _ _ _ h => h) (Or.inr ⟨by rfl, rfl⟩) hHeld ?_
              try simp only [Act.put, List.setIfInBounds_toArray, List.set_cons_zero, List.set_cons_succ]
              refine wpAnyH_take (i := 21) (oi := ⟨some 126, _, _, _, _, _⟩) (v := undef) rfl (by kernel_rfl) (by kernel_rfl) (by kernel_rfl) (fun _ _ _ h => h) (Or.inr ⟨by rfl, rfl⟩) hHeld ?_
              try simp only [Act.put, List.setIfInBounds_toArray, List.set_cons_zero, List.set_cons_succ]
              refine wpAnyH_take (i := 22) (oi := ⟨some 127, _, _, _, _, _⟩) (v := undef) rfl (by kernel_rfl) (by kernel_rfl) (by kernel_rfl) (fun _ _ _ h => h) (Or.inr ⟨by rfl, rfl⟩) hHeld ?_
              try simp only [Act.put, List.setIfInBounds_toArray, List.set_cons_zero, List.set_cons_succ]
              refine wpAnyH_take (i := 23) (oi := ⟨some 128, _, _, _, _, _⟩) (v := undef) rfl (by kernel_rfl) (by kernel_rfl) (by kernel_rfl) (fun _ _ _ h => h) (Or.inr ⟨by rfl, rfl⟩) hHeld ?_
              try simp only [Act.put, List.setIfInBounds_toArray, List.set_cons_zero, List.set_cons_succ]
              refine wpAnyH_take (i := 24) (oi := ⟨some 129, _, _, _, _, _⟩) (v := undef) rfl (by kernel_rfl) (by kernel_rfl) (by kernel_rfl) (fun _ _ _ h => h) (Or.inr ⟨by rfl, rfl⟩) hHeld ?_
              try simp only [Act.put, List.setIfInBounds_toArray, List.set_cons_zero, List.set_cons_succ]
              refine wpAnyH_take (i := 17) (oi := ⟨some 122, _, _, _, _, _⟩) (v := undef) rfl (by kernel_rfl) (by kernel_rfl) (by kernel_rfl) (fun _ _ _ h => h) (Or.inr ⟨by rfl, rfl⟩) hHeld ?_
              try simp only [Act.put, List.setIfInBounds_toArray, List.set_cons_zero, List.set_cons_succ]
              refine wpAnyH_take (i := 25) (oi := ⟨some 130, _, _, _, _, _⟩) (v := undef) rfl (by kernel_rfl) (by kernel_rfl) (by kernel_rfl) (fun _ _ _ h => h) (Or.inr ⟨by rfl, rfl⟩) hHeld ?_
              try simp only [Act.put, List.setIfInBounds_toArray, List.set_cons_zero, List.set_cons_succ]
              refine wpAnyH_take (i := 26) (oi := ⟨some 131, _, _, _, _, _⟩) (v := undef) rfl (by kernel_rfl) (by kernel_rfl) (by kernel_rfl) (fun _ _ _ h => h) (Or.inr ⟨by rfl, rfl⟩) hHeld ?_
              try simp only [Act.put, List.setIfInBounds_toArray, List.set_cons_zero, List.set_cons_succ]
              refine wpAnyH_take (i := 27) (oi := ⟨some 132, _, _, _, _, _⟩) (v := undef) rfl (by kernel_rfl) (by kernel_rfl) (by kernel_rfl) (fun _ _ _ h => h) (Or.inr ⟨by rfl, rfl⟩) hHeld ?_
              try simp only [Act.put, List.setIfInBounds_toArray, List.set_cons_zero, List.set_cons_succ]
              refine wpAnyH_take (i := 28) (oi := ⟨some 133, _, _, _, _, _⟩) (v := .bool false) rfl (by kernel_rfl) (by kernel_rfl) (by kernel_rfl) (fun _ _ _ h => h) (Or.inl ⟨by rfl, ?_⟩) hHeld ?_
              · intro ww hS
                try dsimp only at hS
                go_simp
                try with_reducible rfl
                try omega
              try simp only [Act.put, List.setIfInBounds_toArray, List.set_cons_zero, List.set_cons_succ]
              refine wpAnyH_done (by kernel_rfl) ?_ _
              clear hHeld
              go_wp2
              go_roundw
              case rel => exact ⟨i + 1, by omega, by rw [hnx.out]; rfl, by go_num, L⟩
              case measure => simp [intOf]; omega
            · simp only [hbT] at THt
              simp only [hbR] at THr
              have hff : hf M ys i = true := by rw [hfi, hbT, hbR]; rfl
              have hnx := Lib.hid (anyF_next hfr hff)
              have hie2 : ((i : Int) == (i0 : Int)) = false := by have h9 := hun.out; simp; intro e9; have e8 : i = i0 := (by omega); rw [← e8, hff] at h9; cases h9
              clear hfi hff hfr hbT hbR
              go_wp2_with fail
              refine ((TLv _).out).mono ?_
              rintro e w' ⟨rfl, rfl⟩
              go_wp2_with fail
              refine ((TT1 _).out).mono ?_
              rintro e w' ⟨rfl, rfl⟩
              go_wp2_with fail
              refine ((TR1 _).out).mono ?_
              rintro e w' ⟨rfl, rfl⟩
              have X1 := (L.K.cell (p := ⟨bb, oo + cl, none⟩) hbb).trans XT
              go_wp2_with fail
              refine ((THt _).out).mono ?_
              rintro e w' ⟨rfl, rfl⟩
              clear X1
              have X2 := (L.K.cell (p := ⟨bb, oo + rc, none⟩) hbb).trans XR
              go_wp2_with fail
              refine ((THr _).out).mono ?_
              rintro e w' ⟨rfl, rfl⟩
              clear X2
              go_upto_region 22 with (fail)
              replace L := L.drew
              refine wp_region_held_drew (S := fun w' => Loc w w' [(gO, 41, opv h s), (gH, 27, #[.int .u32 (a : Int), .int .i64 p, .slice A n c, .int .i64 (ns : Int), .int .i64 wo, .int .i64 qu, .int .i64 tr])] []) (by kernel_rfl) L (fun hHeld => ?_)
              generalize wr.drew = v7 at hHeld L ⊢
              refine wpAnyH_take (i := 0) (oi := ⟨some 105, _, _, _, _, _⟩) (v := .pointer (some ⟨gO, 8, none⟩)) rfl (by kernel_rfl) (by kernel_rfl) (by kernel_rfl) (fun _ _ _ h => h) (Or.inl ⟨by rfl, ?_⟩) hHeld ?_
              · intro ww hS
                try dsimp only at hS
                go_simp
                try with_reducible rfl
                try omega
              try simp only [Act.put, List.setIfInBounds_toArray, List.set_cons_zero, List.set_cons_succ]
              refine wpAnyH_take (i := 1) (oi := ⟨some 106, _, _, _, _, _⟩) (v := .int .i64 s.phase) rfl (by kernel_rfl) (by kernel_rfl) (by kernel_rfl) (fun _ _ _ h => h) (Or.inl ⟨by rfl, ?_⟩) hHeld ?_
              · intro ww hS
                try dsimp only at hS
                have O_8 := ((hS)).at_ 0 8 rfl (v := .int .i64 s.phase) rfl
                have O_z := ((hS)).lt 0 rfl
                go_simp
                try with_reducible rfl
                try omega
              try simp only [Act.put, List.setIfInBounds_toArray, List.set_cons_zero, List.set_cons_succ]
              refine wpAnyH_take (i := 2) (oi := ⟨some 107, _, _, _, _, _⟩) (v := .bool true) rfl (by kernel_rfl) (by kernel_rfl) (by kernel_rfl) (fun _ _ _ h => h) (Or.inl ⟨by rfl, ?_⟩) hHeld ?_
              · intro ww hS
                try dsimp only at hS
                go_simp
                try with_reducible rfl
                try omega
              try simp only [Act.put, List.setIfInBounds_toArray, List.set_cons_zero, List.set_cons_succ]
              refine wpAnyH_take (i := 3) (oi := ⟨some 108, _, _, _, _, _⟩) (v := .bool true) rfl (by kernel_rfl) (by kernel_rfl) (by kernel_rfl) (fun _ _ _ h => h) (Or.inl ⟨by rfl, ?_⟩) hHeld ?_
              · intro ww hS
                try dsimp only at hS
                go_simp
                try with_reducible rfl
                try omega
              try simp only [Act.put, List.setIfInBounds_toArray, List.set_cons_zero, List.set_cons_succ]
              refine wpAnyH_take (i := 4) (oi := ⟨some 109, _, _, _, _, _⟩) (v := .int .i64 (i : Int)) rfl (by kernel_rfl) (by kernel_rfl) (by kernel_rfl) (fun _ _ _ h => h) (Or.inl ⟨by rfl, ?_⟩) hHeld ?_
              · intro ww hS
                try dsimp only at hS
                go_simp
                try with_reducible rfl
                try omega
              try simp only [Act.put, List.setIfInBounds_toArray, List.set_cons_zero, List.set_cons_succ]
              refine wpAnyH_take (i := 5) (oi := ⟨some 110, _, _, _, _, _⟩) (v := .pointer (some ⟨gO, 11, none⟩)) rfl (by kernel_rfl) (by kernel_rfl) (by kernel_rfl) (fun _ _ _ h => h) (Or.inl ⟨by rfl, ?_⟩) hHeld ?_
              · intro ww hS
                try dsimp only at hS
                go_simp
                try with_reducible rfl
                try omega
              try simp only [Act.put, List.setIfInBounds_toArray, List.set_cons_zero, List.set_cons_succ]
              refine wpAnyH_take (i := 6) (oi := ⟨some 111, _, _, _, _, _⟩) (v := .int .i64 (i0 : Int)) rfl (by kernel_rfl) (by kernel_rfl) (by kernel_rfl) (fun _ _ _ h => h) (Or.inl ⟨by rfl, ?_⟩) hHeld ?_
              · intro ww hS
                try dsimp only at hS
                have O_11 := ((hS)).at_ 0 11 rfl (v := .int .i64 (i0 : Int)) (by show some (Value.int .i64 s.leaf) = _; rw [hlf])
                have O_z := ((hS)).lt 0 rfl
                go_simp
                try with_reducible rfl
                try omega
              try simp only [Act.put, List.setIfInBounds_toArray, List.set_cons_zero, List.set_cons_succ]
              refine wpAnyH_take (i := 7) (oi := ⟨some 112, _, _, _, _, _⟩) (v := .bool false) rfl (by kernel_rfl) (by kernel_rfl) (by kernel_rfl) (fun _ _ _ h => h) (Or.inl ⟨by rfl, ?_⟩) hHeld ?_
              · intro ww hS
                try dsimp only at hS
                go_simp
                try with_reducible rfl
                try omega
              try simp only [Act.put, List.setIfInBounds_toArray, List.set_cons_zero, List.set_cons_succ]
              refine wpAnyH_take (i := 8) (oi := ⟨some 113, _, _, _, _, _⟩) (v := .bool false) rfl (by kernel_rfl) (by kernel_rfl) (by kernel_rfl) (fun _ _ _ h => h) (Or.inl ⟨by rfl, ?_⟩) hHeld ?_
              · intro ww hS
                try dsimp only at hS
                go_simp
                try with_reducible rfl
                try omega
              try simp only [Act.put, List.setIfInBounds_toArray, List.set_cons_zero, List.set_cons_succ]
              refine wpAnyH_take (i := 9) (oi := ⟨some 114, _, _, _, _, _⟩) (v := .bool false) rfl (by kernel_rfl) (by kernel_rfl) (by kernel_rfl) (fun _ _ _ h => h) (Or.inl ⟨by rfl, ?_⟩) hHeld ?_
              · intro ww hS
                try dsimp only at hS
                go_simp
                try with_reducible rfl
                try omega
              try simp only [Act.put, List.setIfInBounds_toArray, List.set_cons_zero, List.set_cons_succ]
              refine wpAnyH_take (i := 10) (oi := ⟨some 115, _, _, _, _, _⟩) (v := undef) rfl (by kernel_rfl) (by kernel_rfl) (by kernel_rfl) (fun _ _ _ h => h) (Or.inr ⟨by rfl, rfl⟩) hHeld ?_
              try simp only [Act.put, List.setIfInBounds_toArray, List.set_cons_zero, List.set_cons_succ]
              refine wpAnyH_take (i := 11) (oi := ⟨some 116, _, _, _, _, _⟩) (v := undef) rfl (by kernel_rfl) (by kernel_rfl) (by kernel_rfl) (fun _ _ _ h => h) (Or.inr ⟨by rfl, rfl⟩) hHeld ?_
              try simp only [Act.put, List.setIfInBounds_toArray, List.set_cons_zero, List.set_cons_succ]
              refine wpAnyH_take (i := 12) (oi := ⟨some 117, _, _, _, _, _⟩) (v := undef) rfl (by kernel_rfl) (by kernel_rfl) (by kernel_rfl) (fun _ _ _ h => h) (Or.inr ⟨by rfl, rfl⟩) hHeld ?_
              try simp only [Act.put, List.setIfInBounds_toArray, List.set_cons_zero, List.set_cons_succ]
              refine wpAnyH_take (i := 13) (oi := ⟨some 118, _, _, _, _, _⟩) (v := undef) rfl (by kernel_rfl) (by kernel_rfl) (by kernel_rfl) (fun _ _ _ h => h) (Or.inr ⟨by rfl, rfl⟩) hHeld ?_
              try simp only [Act.put, List.setIfInBounds_toArray, List.set_cons_zero, List.set_cons_succ]
              refine wpAnyH_take (i := 14) (oi := ⟨some 119, _, _, _, _, _⟩) (v := undef) rfl (by kernel_rfl) (by kernel_rfl) (by kernel_rfl) (fun _ _ _ h => h) (Or.inr ⟨by rfl, rfl⟩) hHeld ?_
              try simp only [Act.put, List.setIfInBounds_toArray, List.set_cons_zero, List.set_cons_succ]
              refine wpAnyH_take (i := 15) (oi := ⟨some 120, _, _, _, _, _⟩) (v := undef) rfl (by kernel_rfl) (by kernel_rfl) (by kernel_rfl) (fun _ _ _ h => h) (Or.inr ⟨by rfl, rfl⟩) hHeld ?_
              try simp only [Act.put, List.setIfInBounds_toArray, List.set_cons_zero, List.set_cons_succ]
              refine wpAnyH_take (i := 16) (oi := ⟨some 121, _, _, _, _, _⟩) (v := undef) rfl (by kernel_rfl) (by kernel_rfl) (by kernel_rfl) (fun _ _ _ h => h) (Or.inr ⟨by rfl, rfl⟩) hHeld ?_
              try simp only [Act.put, List.setIfInBounds_toArray, List.set_cons_zero, List.set_cons_succ]
              refine wpAnyH_take (i := 18) (oi := ⟨some 123, _, _, _, _, _⟩) (v := undef) rfl (by kernel_rfl) (by kernel_rfl) (by kernel_rfl) (fun _ _ _ h => h) (Or.inr ⟨by rfl, rfl⟩) hHeld ?_
              try simp only [Act.put, List.setIfInBounds_toArray, List.set_cons_zero, List.set_cons_succ]
              refine wpAnyH_take (i := 19) (oi := ⟨some 124, _, _, _, _, _⟩) (v := undef) rfl (by kernel_rfl) (by kernel_rfl) (by kernel_rfl) (fun _ _ _ h => h) (Or.inr ⟨by rfl, rfl⟩) hHeld ?_
              try simp only [Act.put, List.setIfInBounds_toArray, List.set_cons_zero, List.set_cons_succ]
              refine wpAnyH_take (i := 20) (oi := ⟨some 125, _, _, _, _, _⟩) (v := undef) rfl (by kernel_rfl) (by kernel_rfl) (by kernel_rfl) (fun _ _ _ h => h) (Or.inr ⟨by rfl, rfl⟩) hHeld ?_
              try simp only [Act.put, List.setIfInBounds_toArray, List.set_cons_zero, List.set_cons_succ]
              refine wpAnyH_take (i := 21) (oi := ⟨some 126, _, _, _, _, _⟩) (v := undef) rfl (by kernel_rfl) (by kernel_rfl) (by kernel_rfl) (fun _ _ _ h => h) (Or.inr ⟨by rfl, rfl⟩) hHeld ?_
              try simp only [Act.put, List.setIfInBounds_toArray, List.set_cons_zero, List.set_cons_succ]
              refine wpAnyH_take (i := 22) (oi := ⟨some 127, _, _, _, _, _⟩) (v := undef) rfl (by kernel_rfl) (by kernel_rfl) (by kernel_rfl) (fun _ _ _ h => h) (Or.inr ⟨by rfl, rfl⟩) hHeld ?_
              try simp only [Act.put, List.setIfInBounds_toArray, List.set_cons_zero, List.set_cons_succ]
              refine wpAnyH_take (i := 23) (oi := ⟨some 128, _, _, _, _, _⟩) (v := undef) rfl (by kernel_rfl) (by kernel_rfl) (by kernel_rfl) (fun _ _ _ h => h) (Or.inr ⟨by rfl, rfl⟩) hHeld ?_
              try simp only [Act.put, List.setIfInBounds_toArray, List.set_cons_zero, List.set_cons_succ]
              refine wpAnyH_take (i := 24) (oi := ⟨some 129, _, _, _, _, _⟩) (v := undef) rfl (by kernel_rfl) (by kernel_rfl) (by kernel_rfl) (fun _ _ _ h => h) (Or.inr ⟨by rfl, rfl⟩) hHeld ?_
              try simp only [Act.put, List.setIfInBounds_toArray, List.set_cons_zero, List.set_cons_succ]
              refine wpAnyH_take (i := 17) (oi := ⟨some 122, _, _, _, _, _⟩) (v := undef) rfl (by kernel_rfl) (by kernel_rfl) (by kernel_rfl) (fun _ _ _ h => h) (Or.inr ⟨by rfl, rfl⟩) hHeld ?_
              try simp only [Act.put, List.setIfInBounds_toArray, List.set_cons_zero, List.set_cons_succ]
              refine wpAnyH_take (i := 25) (oi := ⟨some 130, _, _, _, _, _⟩) (v := undef) rfl (by kernel_rfl) (by kernel_rfl) (by kernel_rfl) (fun _ _ _ h => h) (Or.inr ⟨by rfl, rfl⟩) hHeld ?_
              try simp only [Act.put, List.setIfInBounds_toArray, List.set_cons_zero, List.set_cons_succ]
              refine wpAnyH_take (i := 26) (oi := ⟨some 131, _, _, _, _, _⟩) (v := undef) rfl (by kernel_rfl) (by kernel_rfl) (by kernel_rfl) (fun _ _ _ h => h) (Or.inr ⟨by rfl, rfl⟩) hHeld ?_
              try simp only [Act.put, List.setIfInBounds_toArray, List.set_cons_zero, List.set_cons_succ]
              refine wpAnyH_take (i := 27) (oi := ⟨some 132, _, _, _, _, _⟩) (v := undef) rfl (by kernel_rfl) (by kernel_rfl) (by kernel_rfl) (fun _ _ _ h => h) (Or.inr ⟨by rfl, rfl⟩) hHeld ?_
              try simp only [Act.put, List.setIfInBounds_toArray, List.set_cons_zero, List.set_cons_succ]
              refine wpAnyH_take (i := 28) (oi := ⟨some 133, _, _, _, _, _⟩) (v := .bool false) rfl (by kernel_rfl) (by kernel_rfl) (by kernel_rfl) (fun _ _ _ h => h) (Or.inl ⟨by rfl, ?_⟩) hHeld ?_
              · intro ww hS
                try dsimp only at hS
                go_simp
                try with_reducible rfl
                try omega
              try simp only [Act.put, List.setIfInBounds_toArray, List.set_cons_zero, List.set_cons_succ]
              refine wpAnyH_done (by kernel_rfl) ?_ _
              clear hHeld
              go_wp2
              go_roundw
              case rel => exact ⟨i + 1, by omega, by rw [hnx.out]; rfl, by go_num, L⟩
              case measure => simp [intOf]; omega
          by_cases hie : i = i0
          · cases fr
            · simp only [hbT] at THt
              simp only [hbR] at THr
              have hff : hf M ys i = false := by rw [hfi, hbT, hbR]; rfl
              have hnx := Lib.hid (anyF_next hfr hff)
              subst hie
              have hie2 : ((i : Int) == (i : Int)) = true := by simp
              have hqq : ((q : Int) != (q : Int)) = false := by simp
              clear hfi hff hfr hbT hbR
              go_wp2_with fail
              refine ((TLv _).out).mono ?_
              rintro e w' ⟨rfl, rfl⟩
              go_wp2_with fail
              refine ((TT1 _).out).mono ?_
              rintro e w' ⟨rfl, rfl⟩
              go_wp2_with fail
              refine ((TR1 _).out).mono ?_
              rintro e w' ⟨rfl, rfl⟩
              have X1 := (L.K.cell (p := ⟨bb, oo + cl, none⟩) hbb).trans XT
              go_wp2_with fail
              refine ((THt _).out).mono ?_
              rintro e w' ⟨rfl, rfl⟩
              clear X1
              have X2 := (L.K.cell (p := ⟨bb, oo + rc, none⟩) hbb).trans XR
              go_wp2_with fail
              refine ((THr _).out).mono ?_
              rintro e w' ⟨rfl, rfl⟩
              clear X2
              go_upto_region 22 with (fail)
              replace L := L.drew
              refine wp_region_held_drew (S := fun w' => Loc w w' [(gO, 41, opv h s), (gH, 27, #[.int .u32 (a : Int), .int .i64 p, .slice A n c, .int .i64 (ns : Int), .int .i64 wo, .int .i64 qu, .int .i64 tr])] []) (by kernel_rfl) L (fun hHeld => ?_)
              generalize wr.drew = v7 at hHeld L ⊢
              refine wpAnyH_take (i := 0) (oi := ⟨some 105, _, _, _, _, _⟩) (v := .pointer (some ⟨gO, 8, none⟩)) rfl (by kernel_rfl) (by kernel_rfl) (by kernel_rfl) (fun _ _ _ h => h) (Or.inl ⟨by rfl, ?_⟩) hHeld ?_
              · intro ww hS
                try dsimp only at hS
                go_simp
                try with_reducible rfl
                try omega
              try simp only [Act.put, List.setIfInBounds_toArray, List.set_cons_zero, List.set_cons_succ]
              refine wpAnyH_take (i := 1) (oi := ⟨some 106, _, _, _, _, _⟩) (v := .int .i64 s.phase) rfl (by kernel_rfl) (by kernel_rfl) (by kernel_rfl) (fun _ _ _ h => h) (Or.inl ⟨by rfl, ?_⟩) hHeld ?_
              · intro ww hS
                try dsimp only at hS
                have O_8 := ((hS)).at_ 0 8 rfl (v := .int .i64 s.phase) rfl
                have O_z := ((hS)).lt 0 rfl
                go_simp
                try with_reducible rfl
                try omega
              try simp only [Act.put, List.setIfInBounds_toArray, List.set_cons_zero, List.set_cons_succ]
              refine wpAnyH_take (i := 2) (oi := ⟨some 107, _, _, _, _, _⟩) (v := .bool true) rfl (by kernel_rfl) (by kernel_rfl) (by kernel_rfl) (fun _ _ _ h => h) (Or.inl ⟨by rfl, ?_⟩) hHeld ?_
              · intro ww hS
                try dsimp only at hS
                go_simp
                try with_reducible rfl
                try omega
              try simp only [Act.put, List.setIfInBounds_toArray, List.set_cons_zero, List.set_cons_succ]
              refine wpAnyH_take (i := 3) (oi := ⟨some 108, _, _, _, _, _⟩) (v := .bool true) rfl (by kernel_rfl) (by kernel_rfl) (by kernel_rfl) (fun _ _ _ h => h) (Or.inl ⟨by rfl, ?_⟩) hHeld ?_
              · intro ww hS
                try dsimp only at hS
                go_simp
                try with_reducible rfl
                try omega
              try simp only [Act.put, List.setIfInBounds_toArray, List.set_cons_zero, List.set_cons_succ]
              refine wpAnyH_take (i := 4) (oi := ⟨some 109, _, _, _, _, _⟩) (v := .int .i64 (i : Int)) rfl (by kernel_rfl) (by kernel_rfl) (by kernel_rfl) (fun _ _ _ h => h) (Or.inl ⟨by rfl, ?_⟩) hHeld ?_
              · intro ww hS
                try dsimp only at hS
                go_simp
                try with_reducible rfl
                try omega
              try simp only [Act.put, List.setIfInBounds_toArray, List.set_cons_zero, List.set_cons_succ]
              refine wpAnyH_take (i := 5) (oi := ⟨some 110, _, _, _, _, _⟩) (v := .pointer (some ⟨gO, 11, none⟩)) rfl (by kernel_rfl) (by kernel_rfl) (by kernel_rfl) (fun _ _ _ h => h) (Or.inl ⟨by rfl, ?_⟩) hHeld ?_
              · intro ww hS
                try dsimp only at hS
                go_simp
                try with_reducible rfl
                try omega
              try simp only [Act.put, List.setIfInBounds_toArray, List.set_cons_zero, List.set_cons_succ]
              refine wpAnyH_take (i := 6) (oi := ⟨some 111, _, _, _, _, _⟩) (v := .int .i64 (i : Int)) rfl (by kernel_rfl) (by kernel_rfl) (by kernel_rfl) (fun _ _ _ h => h) (Or.inl ⟨by rfl, ?_⟩) hHeld ?_
              · intro ww hS
                try dsimp only at hS
                have O_11 := ((hS)).at_ 0 11 rfl (v := .int .i64 (i : Int)) (by show some (Value.int .i64 s.leaf) = _; rw [hlf])
                have O_z := ((hS)).lt 0 rfl
                go_simp
                try with_reducible rfl
                try omega
              try simp only [Act.put, List.setIfInBounds_toArray, List.set_cons_zero, List.set_cons_succ]
              refine wpAnyH_take (i := 7) (oi := ⟨some 112, _, _, _, _, _⟩) (v := .bool true) rfl (by kernel_rfl) (by kernel_rfl) (by kernel_rfl) (fun _ _ _ h => h) (Or.inl ⟨by rfl, ?_⟩) hHeld ?_
              · intro ww hS
                try dsimp only at hS
                go_simp
                try with_reducible rfl
                try omega
              try simp only [Act.put, List.setIfInBounds_toArray, List.set_cons_zero, List.set_cons_succ]
              refine wpAnyH_take (i := 8) (oi := ⟨some 113, _, _, _, _, _⟩) (v := .bool true) rfl (by kernel_rfl) (by kernel_rfl) (by kernel_rfl) (fun _ _ _ h => h) (Or.inl ⟨by rfl, ?_⟩) hHeld ?_
              · intro ww hS
                try dsimp only at hS
                go_simp
                try with_reducible rfl
                try omega
              try simp only [Act.put, List.setIfInBounds_toArray, List.set_cons_zero, List.set_cons_succ]
              refine wpAnyH_take (i := 9) (oi := ⟨some 114, _, _, _, _, _⟩) (v := .bool true) rfl (by kernel_rfl) (by kernel_rfl) (by kernel_rfl) (fun _ _ _ h => h) (Or.inl ⟨by rfl, ?_⟩) hHeld ?_
              · intro ww hS
                try dsimp only at hS
                go_simp
                try with_reducible rfl
                try omega
              try simp only [Act.put, List.setIfInBounds_toArray, List.set_cons_zero, List.set_cons_succ]
              refine wpAnyH_take (i := 10) (oi := ⟨some 115, _, _, _, _, _⟩) (v := .bool true) rfl (by kernel_rfl) (by kernel_rfl) (by kernel_rfl) (fun _ _ _ h => h) (Or.inl ⟨by rfl, ?_⟩) hHeld ?_
              · intro ww hS
                try dsimp only at hS
                go_simp
                try with_reducible rfl
                try omega
              try simp only [Act.put, List.setIfInBounds_toArray, List.set_cons_zero, List.set_cons_succ]
              refine wpAnyH_take (i := 11) (oi := ⟨some 116, _, _, _, _, _⟩) (v := .bool false) rfl (by kernel_rfl) (by kernel_rfl) (by kernel_rfl) (fun _ _ _ h => h) (Or.inl ⟨by rfl, ?_⟩) hHeld ?_
              · intro ww hS
                try dsimp only at hS
                go_simp
                try with_reducible rfl
                try omega
              try simp only [Act.put, List.setIfInBounds_toArray, List.set_cons_zero, List.set_cons_succ]
              refine wpAnyH_take (i := 12) (oi := ⟨some 117, _, _, _, _, _⟩) (v := .bool false) rfl (by kernel_rfl) (by kernel_rfl) (by kernel_rfl) (fun _ _ _ h => h) (Or.inl ⟨by rfl, ?_⟩) hHeld ?_
              · intro ww hS
                try dsimp only at hS
                go_simp
                try with_reducible rfl
                try omega
              try simp only [Act.put, List.setIfInBounds_toArray, List.set_cons_zero, List.set_cons_succ]
              refine wpAnyH_take (i := 13) (oi := ⟨some 118, _, _, _, _, _⟩) (v := .int .i64 (M : Int)) rfl (by kernel_rfl) (by kernel_rfl) (by kernel_rfl) (fun _ _ _ h => h) (Or.inl ⟨by rfl, ?_⟩) hHeld ?_
              · intro ww hS
                try dsimp only at hS
                go_simp
                try with_reducible rfl
                try omega
              try simp only [Act.put, List.setIfInBounds_toArray, List.set_cons_zero, List.set_cons_succ]
              refine wpAnyH_take (i := 14) (oi := ⟨some 119, _, _, _, _, _⟩) (v := .pointer (some ⟨gH, 3, none⟩)) rfl (by kernel_rfl) (by kernel_rfl) (by kernel_rfl) (fun _ _ _ h => h) (Or.inl ⟨by rfl, ?_⟩) hHeld ?_
              · intro ww hS
                try dsimp only at hS
                go_simp
                try with_reducible rfl
                try omega
              try simp only [Act.put, List.setIfInBounds_toArray, List.set_cons_zero, List.set_cons_succ]
              refine wpAnyH_take (i := 15) (oi := ⟨some 120, _, _, _, _, _⟩) (v := .int .i64 (ns : Int)) rfl (by kernel_rfl) (by kernel_rfl) (by kernel_rfl) (fun _ _ _ h => h) (Or.inl ⟨by rfl, ?_⟩) hHeld ?_
              · intro ww hS
                try dsimp only at hS
                have H_3 := (hS).at_ 1 3 rfl (v := .int .i64 (ns : Int)) rfl
                have H_z := (hS).lt 1 rfl
                go_simp
                try with_reducible rfl
                try omega
              try simp only [Act.put, List.setIfInBounds_toArray, List.set_cons_zero, List.set_cons_succ]
              refine wpAnyH_take (i := 16) (oi := ⟨some 121, _, _, _, _, _⟩) (v := .int .i64 (i : Int)) rfl (by kernel_rfl) (by kernel_rfl) (by kernel_rfl) (fun _ _ _ h => h) (Or.inl ⟨by rfl, ?_⟩) hHeld ?_
              · intro ww hS
                try dsimp only at hS
                go_simp
                try with_reducible rfl
                try omega
              try simp only [Act.put, List.setIfInBounds_toArray, List.set_cons_zero, List.set_cons_succ]
              refine wpAnyH_take (i := 18) (oi := ⟨some 123, _, _, _, _, _⟩) (v := .pointer (some ⟨gO, 9, none⟩)) rfl (by kernel_rfl) (by kernel_rfl) (by kernel_rfl) (fun _ _ _ h => h) (Or.inl ⟨by rfl, ?_⟩) hHeld ?_
              · intro ww hS
                try dsimp only at hS
                go_simp
                try with_reducible rfl
                try omega
              try simp only [Act.put, List.setIfInBounds_toArray, List.set_cons_zero, List.set_cons_succ]
              refine wpAnyH_take (i := 19) (oi := ⟨some 124, _, _, _, _, _⟩) (v := .int .i64 (hd : Int)) rfl (by kernel_rfl) (by kernel_rfl) (by kernel_rfl) (fun _ _ _ h => h) (Or.inl ⟨by rfl, ?_⟩) hHeld ?_
              · intro ww hS
                try dsimp only at hS
                have O_9 := ((hS)).at_ 0 9 rfl (v := .int .i64 (hd : Int)) (by show some (Value.int .i64 s.shard) = _; rw [hsd])
                have O_z := ((hS)).lt 0 rfl
                go_simp
                try with_reducible rfl
                try omega
              try simp only [Act.put, List.setIfInBounds_toArray, List.set_cons_zero, List.set_cons_succ]
              refine wpAnyH_take (i := 20) (oi := ⟨some 125, _, _, _, _, _⟩) (v := .pointer (some ⟨gO, 10, none⟩)) rfl (by kernel_rfl) (by kernel_rfl) (by kernel_rfl) (fun _ _ _ h => h) (Or.inl ⟨by rfl, ?_⟩) hHeld ?_
              · intro ww hS
                try dsimp only at hS
                go_simp
                try with_reducible rfl
                try omega
              try simp only [Act.put, List.setIfInBounds_toArray, List.set_cons_zero, List.set_cons_succ]
              refine wpAnyH_take (i := 21) (oi := ⟨some 126, _, _, _, _, _⟩) (v := .int .i64 (k : Int)) rfl (by kernel_rfl) (by kernel_rfl) (by kernel_rfl) (fun _ _ _ h => h) (Or.inl ⟨by rfl, ?_⟩) hHeld ?_
              · intro ww hS
                try dsimp only at hS
                have O_10 := ((hS)).at_ 0 10 rfl (v := .int .i64 (k : Int)) (by show some (Value.int .i64 s.sought) = _; rw [hso])
                have O_z := ((hS)).lt 0 rfl
                go_simp
                try with_reducible rfl
                try omega
              try simp only [Act.put, List.setIfInBounds_toArray, List.set_cons_zero, List.set_cons_succ]
              refine wpAnyH_take (i := 22) (oi := ⟨some 127, _, _, _, _, _⟩) (v := .int .i64 (sm : Int)) rfl (by kernel_rfl) (by kernel_rfl) (by kernel_rfl) (fun _ _ _ h => h) (Or.inl ⟨by rfl, ?_⟩) hHeld ?_
              · intro ww hS
                try dsimp only at hS
                go_simp
                try with_reducible rfl
                try omega
              try simp only [Act.put, List.setIfInBounds_toArray, List.set_cons_zero, List.set_cons_succ]
              refine wpAnyH_take (i := 23) (oi := ⟨some 128, _, _, _, _, _⟩) (v := .pointer (some ⟨gH, 3, none⟩)) rfl (by kernel_rfl) (by kernel_rfl) (by kernel_rfl) (fun _ _ _ h => h) (Or.inl ⟨by rfl, ?_⟩) hHeld ?_
              · intro ww hS
                try dsimp only at hS
                go_simp
                try with_reducible rfl
                try omega
              try simp only [Act.put, List.setIfInBounds_toArray, List.set_cons_zero, List.set_cons_succ]
              refine wpAnyH_take (i := 24) (oi := ⟨some 129, _, _, _, _, _⟩) (v := .int .i64 (ns : Int)) rfl (by kernel_rfl) (by kernel_rfl) (by kernel_rfl) (fun _ _ _ h => h) (Or.inl ⟨by rfl, ?_⟩) hHeld ?_
              · intro ww hS
                try dsimp only at hS
                have H_3 := (hS).at_ 1 3 rfl (v := .int .i64 (ns : Int)) rfl
                have H_z := (hS).lt 1 rfl
                go_simp
                try with_reducible rfl
                try omega
              try simp only [Act.put, List.setIfInBounds_toArray, List.set_cons_zero, List.set_cons_succ]
              refine wpAnyH_ready (rs := [17]) (by kernel_rfl) (by simp) ?_
              refine AllReadyH.cons (o := ⟨some 122, _, _, _, _, _⟩) rfl (fun K0 hK => ?_) AllReadyH.nil
              go_simp
              refine ((hOf _).out).mono ?_
              rintro e w8 ⟨rfl, K'⟩
              replace L := L.over K'
              refine hK.out _ _ L (fun hHeld' => ?_)
              clear hHeld hK K0
              have hHeld := hHeld'
              clear hHeld'
              clear K'
              try simp only [Act.put, List.setIfInBounds_toArray, List.set_cons_zero, List.set_cons_succ]
              refine wpAnyH_ready (rs := [25]) (by kernel_rfl) (by simp) ?_
              refine AllReadyH.cons (o := ⟨some 130, _, _, _, _, _⟩) rfl (fun K0 hK => ?_) AllReadyH.nil
              go_simp
              refine ((hRe _).out).mono ?_
              rintro e w' ⟨rfl, rfl⟩
              refine hK.out _ _ L (fun hHeld' => ?_)
              clear hHeld hK K0
              have hHeld := hHeld'
              clear hHeld'
              try simp only [Act.put, List.setIfInBounds_toArray, List.set_cons_zero, List.set_cons_succ]
              refine wpAnyH_take (i := 26) (oi := ⟨some 131, _, _, _, _, _⟩) (v := .bool false) rfl (by kernel_rfl) (by kernel_rfl) (by kernel_rfl) (fun _ _ _ h => h) (Or.inl ⟨by rfl, ?_⟩) hHeld ?_
              · intro ww hS
                try dsimp only at hS
                go_simp
                try with_reducible rfl
                try omega
              try simp only [Act.put, List.setIfInBounds_toArray, List.set_cons_zero, List.set_cons_succ]
              refine wpAnyH_take (i := 27) (oi := ⟨some 132, _, _, _, _, _⟩) (v := .bool false) rfl (by kernel_rfl) (by kernel_rfl) (by kernel_rfl) (fun _ _ _ h => h) (Or.inl ⟨by rfl, ?_⟩) hHeld ?_
              · intro ww hS
                try dsimp only at hS
                go_simp
                try with_reducible rfl
                try omega
              try simp only [Act.put, List.setIfInBounds_toArray, List.set_cons_zero, List.set_cons_succ]
              refine wpAnyH_take (i := 28) (oi := ⟨some 133, _, _, _, _, _⟩) (v := .bool false) rfl (by kernel_rfl) (by kernel_rfl) (by kernel_rfl) (fun _ _ _ h => h) (Or.inl ⟨by rfl, ?_⟩) hHeld ?_
              · intro ww hS
                try dsimp only at hS
                go_simp
                try with_reducible rfl
                try omega
              try simp only [Act.put, List.setIfInBounds_toArray, List.set_cons_zero, List.set_cons_succ]
              refine wpAnyH_done (by kernel_rfl) ?_ _
              clear hHeld
              go_wp2
              go_roundw
              case rel => exact ⟨i + 1, by omega, by rw [hnx.out]; rfl, by go_num, L⟩
              case measure => simp [intOf]; omega
            · simp only [hbT] at THt
              simp only [hbR] at THr
              have hff : hf M ys i = false := by rw [hfi, hbT, hbR]; rfl
              have hnx := Lib.hid (anyF_next hfr hff)
              subst hie
              have hie2 : ((i : Int) == (i : Int)) = true := by simp
              have hqq : ((q : Int) != (q : Int)) = false := by simp
              clear hfi hff hfr hbT hbR
              go_wp2_with fail
              refine ((TLv _).out).mono ?_
              rintro e w' ⟨rfl, rfl⟩
              go_wp2_with fail
              refine ((TT1 _).out).mono ?_
              rintro e w' ⟨rfl, rfl⟩
              go_wp2_with fail
              refine ((TR1 _).out).mono ?_
              rintro e w' ⟨rfl, rfl⟩
              have X1 := (L.K.cell (p := ⟨bb, oo + cl, none⟩) hbb).trans XT
              go_wp2_with fail
              refine ((THt _).out).mono ?_
              rintro e w' ⟨rfl, rfl⟩
              clear X1
              have X2 := (L.K.cell (p := ⟨bb, oo + rc, none⟩) hbb).trans XR
              go_wp2_with fail
              refine ((THr _).out).mono ?_
              rintro e w' ⟨rfl, rfl⟩
              clear X2
              go_upto_region 22 with (fail)
              replace L := L.drew
              refine wp_region_held_drew (S := fun w' => Loc w w' [(gO, 41, opv h s), (gH, 27, #[.int .u32 (a : Int), .int .i64 p, .slice A n c, .int .i64 (ns : Int), .int .i64 wo, .int .i64 qu, .int .i64 tr])] []) (by kernel_rfl) L (fun hHeld => ?_)
              generalize wr.drew = v7 at hHeld L ⊢
              refine wpAnyH_take (i := 0) (oi := ⟨some 105, _, _, _, _, _⟩) (v := .pointer (some ⟨gO, 8, none⟩)) rfl (by kernel_rfl) (by kernel_rfl) (by kernel_rfl) (fun _ _ _ h => h) (Or.inl ⟨by rfl, ?_⟩) hHeld ?_
              · intro ww hS
                try dsimp only at hS
                go_simp
                try with_reducible rfl
                try omega
              try simp only [Act.put, List.setIfInBounds_toArray, List.set_cons_zero, List.set_cons_succ]
              refine wpAnyH_take (i := 1) (oi := ⟨some 106, _, _, _, _, _⟩) (v := .int .i64 s.phase) rfl (by kernel_rfl) (by kernel_rfl) (by kernel_rfl) (fun _ _ _ h => h) (Or.inl ⟨by rfl, ?_⟩) hHeld ?_
              · intro ww hS
                try dsimp only at hS
                have O_8 := ((hS)).at_ 0 8 rfl (v := .int .i64 s.phase) rfl
                have O_z := ((hS)).lt 0 rfl
                go_simp
                try with_reducible rfl
                try omega
              try simp only [Act.put, List.setIfInBounds_toArray, List.set_cons_zero, List.set_cons_succ]
              refine wpAnyH_take (i := 2) (oi := ⟨some 107, _, _, _, _, _⟩) (v := .bool true) rfl (by kernel_rfl) (by kernel_rfl) (by kernel_rfl) (fun _ _ _ h => h) (Or.inl ⟨by rfl, ?_⟩) hHeld ?_
              · intro ww hS
                try dsimp only at hS
                go_simp
                try with_reducible rfl
                try omega
              try simp only [Act.put, List.setIfInBounds_toArray, List.set_cons_zero, List.set_cons_succ]
              refine wpAnyH_take (i := 3) (oi := ⟨some 108, _, _, _, _, _⟩) (v := .bool true) rfl (by kernel_rfl) (by kernel_rfl) (by kernel_rfl) (fun _ _ _ h => h) (Or.inl ⟨by rfl, ?_⟩) hHeld ?_
              · intro ww hS
                try dsimp only at hS
                go_simp
                try with_reducible rfl
                try omega
              try simp only [Act.put, List.setIfInBounds_toArray, List.set_cons_zero, List.set_cons_succ]
              refine wpAnyH_take (i := 4) (oi := ⟨some 109, _, _, _, _, _⟩) (v := .int .i64 (i : Int)) rfl (by kernel_rfl) (by kernel_rfl) (by kernel_rfl) (fun _ _ _ h => h) (Or.inl ⟨by rfl, ?_⟩) hHeld ?_
              · intro ww hS
                try dsimp only at hS
                go_simp
                try with_reducible rfl
                try omega
              try simp only [Act.put, List.setIfInBounds_toArray, List.set_cons_zero, List.set_cons_succ]
              refine wpAnyH_take (i := 5) (oi := ⟨some 110, _, _, _, _, _⟩) (v := .pointer (some ⟨gO, 11, none⟩)) rfl (by kernel_rfl) (by kernel_rfl) (by kernel_rfl) (fun _ _ _ h => h) (Or.inl ⟨by rfl, ?_⟩) hHeld ?_
              · intro ww hS
                try dsimp only at hS
                go_simp
                try with_reducible rfl
                try omega
              try simp only [Act.put, List.setIfInBounds_toArray, List.set_cons_zero, List.set_cons_succ]
              refine wpAnyH_take (i := 6) (oi := ⟨some 111, _, _, _, _, _⟩) (v := .int .i64 (i : Int)) rfl (by kernel_rfl) (by kernel_rfl) (by kernel_rfl) (fun _ _ _ h => h) (Or.inl ⟨by rfl, ?_⟩) hHeld ?_
              · intro ww hS
                try dsimp only at hS
                have O_11 := ((hS)).at_ 0 11 rfl (v := .int .i64 (i : Int)) (by show some (Value.int .i64 s.leaf) = _; rw [hlf])
                have O_z := ((hS)).lt 0 rfl
                go_simp
                try with_reducible rfl
                try omega
              try simp only [Act.put, List.setIfInBounds_toArray, List.set_cons_zero, List.set_cons_succ]
              refine wpAnyH_take (i := 7) (oi := ⟨some 112, _, _, _, _, _⟩) (v := .bool true) rfl (by kernel_rfl) (by kernel_rfl) (by kernel_rfl) (fun _ _ _ h => h) (Or.inl ⟨by rfl, ?_⟩) hHeld ?_
              · intro ww hS
                try dsimp only at hS
                go_simp
                try with_reducible rfl
                try omega
              try simp only [Act.put, List.setIfInBounds_toArray, List.set_cons_zero, List.set_cons_succ]
              refine wpAnyH_take (i := 8) (oi := ⟨some 113, _, _, _, _, _⟩) (v := .bool true) rfl (by kernel_rfl) (by kernel_rfl) (by kernel_rfl) (fun _ _ _ h => h) (Or.inl ⟨by rfl, ?_⟩) hHeld ?_
              · intro ww hS
                try dsimp only at hS
                go_simp
                try with_reducible rfl
                try omega
              try simp only [Act.put, List.setIfInBounds_toArray, List.set_cons_zero, List.set_cons_succ]
              refine wpAnyH_take (i := 9) (oi := ⟨some 114, _, _, _, _, _⟩) (v := .bool true) rfl (by kernel_rfl) (by kernel_rfl) (by kernel_rfl) (fun _ _ _ h => h) (Or.inl ⟨by rfl, ?_⟩) hHeld ?_
              · intro ww hS
                try dsimp only at hS
                go_simp
                try with_reducible rfl
                try omega
              try simp only [Act.put, List.setIfInBounds_toArray, List.set_cons_zero, List.set_cons_succ]
              refine wpAnyH_take (i := 10) (oi := ⟨some 115, _, _, _, _, _⟩) (v := .bool true) rfl (by kernel_rfl) (by kernel_rfl) (by kernel_rfl) (fun _ _ _ h => h) (Or.inl ⟨by rfl, ?_⟩) hHeld ?_
              · intro ww hS
                try dsimp only at hS
                go_simp
                try with_reducible rfl
                try omega
              try simp only [Act.put, List.setIfInBounds_toArray, List.set_cons_zero, List.set_cons_succ]
              refine wpAnyH_take (i := 11) (oi := ⟨some 116, _, _, _, _, _⟩) (v := .bool false) rfl (by kernel_rfl) (by kernel_rfl) (by kernel_rfl) (fun _ _ _ h => h) (Or.inl ⟨by rfl, ?_⟩) hHeld ?_
              · intro ww hS
                try dsimp only at hS
                go_simp
                try with_reducible rfl
                try omega
              try simp only [Act.put, List.setIfInBounds_toArray, List.set_cons_zero, List.set_cons_succ]
              refine wpAnyH_take (i := 12) (oi := ⟨some 117, _, _, _, _, _⟩) (v := .bool false) rfl (by kernel_rfl) (by kernel_rfl) (by kernel_rfl) (fun _ _ _ h => h) (Or.inl ⟨by rfl, ?_⟩) hHeld ?_
              · intro ww hS
                try dsimp only at hS
                go_simp
                try with_reducible rfl
                try omega
              try simp only [Act.put, List.setIfInBounds_toArray, List.set_cons_zero, List.set_cons_succ]
              refine wpAnyH_take (i := 13) (oi := ⟨some 118, _, _, _, _, _⟩) (v := .int .i64 (M : Int)) rfl (by kernel_rfl) (by kernel_rfl) (by kernel_rfl) (fun _ _ _ h => h) (Or.inl ⟨by rfl, ?_⟩) hHeld ?_
              · intro ww hS
                try dsimp only at hS
                go_simp
                try with_reducible rfl
                try omega
              try simp only [Act.put, List.setIfInBounds_toArray, List.set_cons_zero, List.set_cons_succ]
              refine wpAnyH_take (i := 14) (oi := ⟨some 119, _, _, _, _, _⟩) (v := .pointer (some ⟨gH, 3, none⟩)) rfl (by kernel_rfl) (by kernel_rfl) (by kernel_rfl) (fun _ _ _ h => h) (Or.inl ⟨by rfl, ?_⟩) hHeld ?_
              · intro ww hS
                try dsimp only at hS
                go_simp
                try with_reducible rfl
                try omega
              try simp only [Act.put, List.setIfInBounds_toArray, List.set_cons_zero, List.set_cons_succ]
              refine wpAnyH_take (i := 15) (oi := ⟨some 120, _, _, _, _, _⟩) (v := .int .i64 (ns : Int)) rfl (by kernel_rfl) (by kernel_rfl) (by kernel_rfl) (fun _ _ _ h => h) (Or.inl ⟨by rfl, ?_⟩) hHeld ?_
              · intro ww hS
                try dsimp only at hS
                have H_3 := (hS).at_ 1 3 rfl (v := .int .i64 (ns : Int)) rfl
                have H_z := (hS).lt 1 rfl
                go_simp
                try with_reducible rfl
                try omega
              try simp only [Act.put, List.setIfInBounds_toArray, List.set_cons_zero, List.set_cons_succ]
              refine wpAnyH_take (i := 16) (oi := ⟨some 121, _, _, _, _, _⟩) (v := .int .i64 (i : Int)) rfl (by kernel_rfl) (by kernel_rfl) (by kernel_rfl) (fun _ _ _ h => h) (Or.inl ⟨by rfl, ?_⟩) hHeld ?_
              · intro ww hS
                try dsimp only at hS
                go_simp
                try with_reducible rfl
                try omega
              try simp only [Act.put, List.setIfInBounds_toArray, List.set_cons_zero, List.set_cons_succ]
              refine wpAnyH_take (i := 18) (oi := ⟨some 123, _, _, _, _, _⟩) (v := .pointer (some ⟨gO, 9, none⟩)) rfl (by kernel_rfl) (by kernel_rfl) (by kernel_rfl) (fun _ _ _ h => h) (Or.inl ⟨by rfl, ?_⟩) hHeld ?_
              · intro ww hS
                try dsimp only at hS
                go_simp
                try with_reducible rfl
                try omega
              try simp only [Act.put, List.setIfInBounds_toArray, List.set_cons_zero, List.set_cons_succ]
              refine wpAnyH_take (i := 19) (oi := ⟨some 124, _, _, _, _, _⟩) (v := .int .i64 (hd : Int)) rfl (by kernel_rfl) (by kernel_rfl) (by kernel_rfl) (fun _ _ _ h => h) (Or.inl ⟨by rfl, ?_⟩) hHeld ?_
              · intro ww hS
                try dsimp only at hS
                have O_9 := ((hS)).at_ 0 9 rfl (v := .int .i64 (hd : Int)) (by show some (Value.int .i64 s.shard) = _; rw [hsd])
                have O_z := ((hS)).lt 0 rfl
                go_simp
                try with_reducible rfl
                try omega
              try simp only [Act.put, List.setIfInBounds_toArray, List.set_cons_zero, List.set_cons_succ]
              refine wpAnyH_take (i := 20) (oi := ⟨some 125, _, _, _, _, _⟩) (v := .pointer (some ⟨gO, 10, none⟩)) rfl (by kernel_rfl) (by kernel_rfl) (by kernel_rfl) (fun _ _ _ h => h) (Or.inl ⟨by rfl, ?_⟩) hHeld ?_
              · intro ww hS
                try dsimp only at hS
                go_simp
                try with_reducible rfl
                try omega
              try simp only [Act.put, List.setIfInBounds_toArray, List.set_cons_zero, List.set_cons_succ]
              refine wpAnyH_take (i := 21) (oi := ⟨some 126, _, _, _, _, _⟩) (v := .int .i64 (k : Int)) rfl (by kernel_rfl) (by kernel_rfl) (by kernel_rfl) (fun _ _ _ h => h) (Or.inl ⟨by rfl, ?_⟩) hHeld ?_
              · intro ww hS
                try dsimp only at hS
                have O_10 := ((hS)).at_ 0 10 rfl (v := .int .i64 (k : Int)) (by show some (Value.int .i64 s.sought) = _; rw [hso])
                have O_z := ((hS)).lt 0 rfl
                go_simp
                try with_reducible rfl
                try omega
              try simp only [Act.put, List.setIfInBounds_toArray, List.set_cons_zero, List.set_cons_succ]
              refine wpAnyH_take (i := 22) (oi := ⟨some 127, _, _, _, _, _⟩) (v := .int .i64 (sm : Int)) rfl (by kernel_rfl) (by kernel_rfl) (by kernel_rfl) (fun _ _ _ h => h) (Or.inl ⟨by rfl, ?_⟩) hHeld ?_
              · intro ww hS
                try dsimp only at hS
                go_simp
                try with_reducible rfl
                try omega
              try simp only [Act.put, List.setIfInBounds_toArray, List.set_cons_zero, List.set_cons_succ]
              refine wpAnyH_take (i := 23) (oi := ⟨some 128, _, _, _, _, _⟩) (v := .pointer (some ⟨gH, 3, none⟩)) rfl (by kernel_rfl) (by kernel_rfl) (by kernel_rfl) (fun _ _ _ h => h) (Or.inl ⟨by rfl, ?_⟩) hHeld ?_
              · intro ww hS
                try dsimp only at hS
                go_simp
                try with_reducible rfl
                try omega
              try simp only [Act.put, List.setIfInBounds_toArray, List.set_cons_zero, List.set_cons_succ]
              refine wpAnyH_take (i := 24) (oi := ⟨some 129, _, _, _, _, _⟩) (v := .int .i64 (ns : Int)) rfl (by kernel_rfl) (by kernel_rfl) (by kernel_rfl) (fun _ _ _ h => h) (Or.inl ⟨by rfl, ?_⟩) hHeld ?_
              · intro ww hS
                try dsimp only at hS
                have H_3 := (hS).at_ 1 3 rfl (v := .int .i64 (ns : Int)) rfl
                have H_z := (hS).lt 1 rfl
                go_simp
                try with_reducible rfl
                try omega
              try simp only [Act.put, List.setIfInBounds_toArray, List.set_cons_zero, List.set_cons_succ]
              refine wpAnyH_ready (rs := [17]) (by kernel_rfl) (by simp) ?_
              refine AllReadyH.cons (o := ⟨some 122, _, _, _, _, _⟩) rfl (fun K0 hK => ?_) AllReadyH.nil
              go_simp
              refine ((hOf _).out).mono ?_
              rintro e w8 ⟨rfl, K'⟩
              replace L := L.over K'
              refine hK.out _ _ L (fun hHeld' => ?_)
              clear hHeld hK K0
              have hHeld := hHeld'
              clear hHeld'
              clear K'
              try simp only [Act.put, List.setIfInBounds_toArray, List.set_cons_zero, List.set_cons_succ]
              refine wpAnyH_ready (rs := [25]) (by kernel_rfl) (by simp) ?_
              refine AllReadyH.cons (o := ⟨some 130, _, _, _, _, _⟩) rfl (fun K0 hK => ?_) AllReadyH.nil
              go_simp
              refine ((hRe _).out).mono ?_
              rintro e w' ⟨rfl, rfl⟩
              refine hK.out _ _ L (fun hHeld' => ?_)
              clear hHeld hK K0
              have hHeld := hHeld'
              clear hHeld'
              try simp only [Act.put, List.setIfInBounds_toArray, List.set_cons_zero, List.set_cons_succ]
              refine wpAnyH_take (i := 26) (oi := ⟨some 131, _, _, _, _, _⟩) (v := .bool false) rfl (by kernel_rfl) (by kernel_rfl) (by kernel_rfl) (fun _ _ _ h => h) (Or.inl ⟨by rfl, ?_⟩) hHeld ?_
              · intro ww hS
                try dsimp only at hS
                go_simp
                try with_reducible rfl
                try omega
              try simp only [Act.put, List.setIfInBounds_toArray, List.set_cons_zero, List.set_cons_succ]
              refine wpAnyH_take (i := 27) (oi := ⟨some 132, _, _, _, _, _⟩) (v := .bool false) rfl (by kernel_rfl) (by kernel_rfl) (by kernel_rfl) (fun _ _ _ h => h) (Or.inl ⟨by rfl, ?_⟩) hHeld ?_
              · intro ww hS
                try dsimp only at hS
                go_simp
                try with_reducible rfl
                try omega
              try simp only [Act.put, List.setIfInBounds_toArray, List.set_cons_zero, List.set_cons_succ]
              refine wpAnyH_take (i := 28) (oi := ⟨some 133, _, _, _, _, _⟩) (v := .bool false) rfl (by kernel_rfl) (by kernel_rfl) (by kernel_rfl) (fun _ _ _ h => h) (Or.inl ⟨by rfl, ?_⟩) hHeld ?_
              · intro ww hS
                try dsimp only at hS
                go_simp
                try with_reducible rfl
                try omega
              try simp only [Act.put, List.setIfInBounds_toArray, List.set_cons_zero, List.set_cons_succ]
              refine wpAnyH_done (by kernel_rfl) ?_ _
              clear hHeld
              go_wp2
              go_roundw
              case rel => exact ⟨i + 1, by omega, by rw [hnx.out]; rfl, by go_num, L⟩
              case measure => simp [intOf]; omega
          · cases fr
            · simp only [hbT] at THt
              simp only [hbR] at THr
              have hff : hf M ys i = false := by rw [hfi, hbT, hbR]; rfl
              have hnx := Lib.hid (anyF_next hfr hff)
              have hie2 : ((i : Int) == (i0 : Int)) = false := by simp; omega
              clear hfi hff hfr hbT hbR
              go_wp2_with fail
              refine ((TLv _).out).mono ?_
              rintro e w' ⟨rfl, rfl⟩
              go_wp2_with fail
              refine ((TT1 _).out).mono ?_
              rintro e w' ⟨rfl, rfl⟩
              go_wp2_with fail
              refine ((TR1 _).out).mono ?_
              rintro e w' ⟨rfl, rfl⟩
              have X1 := (L.K.cell (p := ⟨bb, oo + cl, none⟩) hbb).trans XT
              go_wp2_with fail
              refine ((THt _).out).mono ?_
              rintro e w' ⟨rfl, rfl⟩
              clear X1
              have X2 := (L.K.cell (p := ⟨bb, oo + rc, none⟩) hbb).trans XR
              go_wp2_with fail
              refine ((THr _).out).mono ?_
              rintro e w' ⟨rfl, rfl⟩
              clear X2
              go_upto_region 22 with (fail)
              replace L := L.drew
              refine wp_region_held_drew (S := fun w' => Loc w w' [(gO, 41, opv h s), (gH, 27, #[.int .u32 (a : Int), .int .i64 p, .slice A n c, .int .i64 (ns : Int), .int .i64 wo, .int .i64 qu, .int .i64 tr])] []) (by kernel_rfl) L (fun hHeld => ?_)
              generalize wr.drew = v7 at hHeld L ⊢
              refine wpAnyH_take (i := 0) (oi := ⟨some 105, _, _, _, _, _⟩) (v := .pointer (some ⟨gO, 8, none⟩)) rfl (by kernel_rfl) (by kernel_rfl) (by kernel_rfl) (fun _ _ _ h => h) (Or.inl ⟨by rfl, ?_⟩) hHeld ?_
              · intro ww hS
                try dsimp only at hS
                go_simp
                try with_reducible rfl
                try omega
              try simp only [Act.put, List.setIfInBounds_toArray, List.set_cons_zero, List.set_cons_succ]
              refine wpAnyH_take (i := 1) (oi := ⟨some 106, _, _, _, _, _⟩) (v := .int .i64 s.phase) rfl (by kernel_rfl) (by kernel_rfl) (by kernel_rfl) (fun _ _ _ h => h) (Or.inl ⟨by rfl, ?_⟩) hHeld ?_
              · intro ww hS
                try dsimp only at hS
                have O_8 := ((hS)).at_ 0 8 rfl (v := .int .i64 s.phase) rfl
                have O_z := ((hS)).lt 0 rfl
                go_simp
                try with_reducible rfl
                try omega
              try simp only [Act.put, List.setIfInBounds_toArray, List.set_cons_zero, List.set_cons_succ]
              refine wpAnyH_take (i := 2) (oi := ⟨some 107, _, _, _, _, _⟩) (v := .bool true) rfl (by kernel_rfl) (by kernel_rfl) (by kernel_rfl) (fun _ _ _ h => h) (Or.inl ⟨by rfl, ?_⟩) hHeld ?_
              · intro ww hS
                try dsimp only at hS
                go_simp
                try with_reducible rfl
                try omega
              try simp only [Act.put, List.setIfInBounds_toArray, List.set_cons_zero, List.set_cons_succ]
              refine wpAnyH_take (i := 3) (oi := ⟨some 108, _, _, _, _, _⟩) (v := .bool true) rfl (by kernel_rfl) (by kernel_rfl) (by kernel_rfl) (fun _ _ _ h => h) (Or.inl ⟨by rfl, ?_⟩) hHeld ?_
              · intro ww hS
                try dsimp only at hS
                go_simp
                try with_reducible rfl
                try omega
              try simp only [Act.put, List.setIfInBounds_toArray, List.set_cons_zero, List.set_cons_succ]
              refine wpAnyH_take (i := 4) (oi := ⟨some 109, _, _, _, _, _⟩) (v := .int .i64 (i : Int)) rfl (by kernel_rfl) (by kernel_rfl) (by kernel_rfl) (fun _ _ _ h => h) (Or.inl ⟨by rfl, ?_⟩) hHeld ?_
              · intro ww hS
                try dsimp only at hS
                go_simp
                try with_reducible rfl
                try omega
              try simp only [Act.put, List.setIfInBounds_toArray, List.set_cons_zero, List.set_cons_succ]
              refine wpAnyH_take (i := 5) (oi := ⟨some 110, _, _, _, _, _⟩) (v := .pointer (some ⟨gO, 11, none⟩)) rfl (by kernel_rfl) (by kernel_rfl) (by kernel_rfl) (fun _ _ _ h => h) (Or.inl ⟨by rfl, ?_⟩) hHeld ?_
              · intro ww hS
                try dsimp only at hS
                go_simp
                try with_reducible rfl
                try omega
              try simp only [Act.put, List.setIfInBounds_toArray, List.set_cons_zero, List.set_cons_succ]
              refine wpAnyH_take (i := 6) (oi := ⟨some 111, _, _, _, _, _⟩) (v := .int .i64 (i0 : Int)) rfl (by kernel_rfl) (by kernel_rfl) (by kernel_rfl) (fun _ _ _ h => h) (Or.inl ⟨by rfl, ?_⟩) hHeld ?_
              · intro ww hS
                try dsimp only at hS
                have O_11 := ((hS)).at_ 0 11 rfl (v := .int .i64 (i0 : Int)) (by show some (Value.int .i64 s.leaf) = _; rw [hlf])
                have O_z := ((hS)).lt 0 rfl
                go_simp
                try with_reducible rfl
                try omega
              try simp only [Act.put, List.setIfInBounds_toArray, List.set_cons_zero, List.set_cons_succ]
              refine wpAnyH_take (i := 7) (oi := ⟨some 112, _, _, _, _, _⟩) (v := .bool false) rfl (by kernel_rfl) (by kernel_rfl) (by kernel_rfl) (fun _ _ _ h => h) (Or.inl ⟨by rfl, ?_⟩) hHeld ?_
              · intro ww hS
                try dsimp only at hS
                go_simp
                try with_reducible rfl
                try omega
              try simp only [Act.put, List.setIfInBounds_toArray, List.set_cons_zero, List.set_cons_succ]
              refine wpAnyH_take (i := 8) (oi := ⟨some 113, _, _, _, _, _⟩) (v := .bool false) rfl (by kernel_rfl) (by kernel_rfl) (by kernel_rfl) (fun _ _ _ h => h) (Or.inl ⟨by rfl, ?_⟩) hHeld ?_
              · intro ww hS
                try dsimp only at hS
                go_simp
                try with_reducible rfl
                try omega
              try simp only [Act.put, List.setIfInBounds_toArray, List.set_cons_zero, List.set_cons_succ]
              refine wpAnyH_take (i := 9) (oi := ⟨some 114, _, _, _, _, _⟩) (v := .bool false) rfl (by kernel_rfl) (by kernel_rfl) (by kernel_rfl) (fun _ _ _ h => h) (Or.inl ⟨by rfl, ?_⟩) hHeld ?_
              · intro ww hS
                try dsimp only at hS
                go_simp
                try with_reducible rfl
                try omega
              try simp only [Act.put, List.setIfInBounds_toArray, List.set_cons_zero, List.set_cons_succ]
              refine wpAnyH_take (i := 10) (oi := ⟨some 115, _, _, _, _, _⟩) (v := undef) rfl (by kernel_rfl) (by kernel_rfl) (by kernel_rfl) (fun _ _ _ h => h) (Or.inr ⟨by rfl, rfl⟩) hHeld ?_
              try simp only [Act.put, List.setIfInBounds_toArray, List.set_cons_zero, List.set_cons_succ]
              refine wpAnyH_take (i := 11) (oi := ⟨some 116, _, _, _, _, _⟩) (v := undef) rfl (by kernel_rfl) (by kernel_rfl) (by kernel_rfl) (fun _ _ _ h => h) (Or.inr ⟨by rfl, rfl⟩) hHeld ?_
              try simp only [Act.put, List.setIfInBounds_toArray, List.set_cons_zero, List.set_cons_succ]
              refine wpAnyH_take (i := 12) (oi := ⟨some 117, _, _, _, _, _⟩) (v := undef) rfl (by kernel_rfl) (by kernel_rfl) (by kernel_rfl) (fun _ _ _ h => h) (Or.inr ⟨by rfl, rfl⟩) hHeld ?_
              try simp only [Act.put, List.setIfInBounds_toArray, List.set_cons_zero, List.set_cons_succ]
              refine wpAnyH_take (i := 13) (oi := ⟨some 118, _, _, _, _, _⟩) (v := undef) rfl (by kernel_rfl) (by kernel_rfl) (by kernel_rfl) (fun _ _ _ h => h) (Or.inr ⟨by rfl, rfl⟩) hHeld ?_
              try simp only [Act.put, List.setIfInBounds_toArray, List.set_cons_zero, List.set_cons_succ]
              refine wpAnyH_take (i := 14) (oi := ⟨some 119, _, _, _, _, _⟩) (v := undef) rfl (by kernel_rfl) (by kernel_rfl) (by kernel_rfl) (fun _ _ _ h => h) (Or.inr ⟨by rfl, rfl⟩) hHeld ?_
              try simp only [Act.put, List.setIfInBounds_toArray, List.set_cons_zero, List.set_cons_succ]
              refine wpAnyH_take (i := 15) (oi := ⟨some 120, _, _, _, _, _⟩) (v := undef) rfl (by kernel_rfl) (by kernel_rfl) (by kernel_rfl) (fun _ _ _ h => h) (Or.inr ⟨by rfl, rfl⟩) hHeld ?_
              try simp only [Act.put, List.setIfInBounds_toArray, List.set_cons_zero, List.set_cons_succ]
              refine wpAnyH_take (i := 16) (oi := ⟨some 121, _, _, _, _, _⟩) (v := undef) rfl (by kernel_rfl) (by kernel_rfl) (by kernel_rfl) (fun _ _ _ h => h) (Or.inr ⟨by rfl, rfl⟩) hHeld ?_
              try simp only [Act.put, List.setIfInBounds_toArray, List.set_cons_zero, List.set_cons_succ]
              refine wpAnyH_take (i := 18) (oi := ⟨some 123, _, _, _, _, _⟩) (v := undef) rfl (by kernel_rfl) (by kernel_rfl) (by kernel_rfl) (fun _ _ _ h => h) (Or.inr ⟨by rfl, rfl⟩) hHeld ?_
              try simp only [Act.put, List.setIfInBounds_toArray, List.set_cons_zero, List.set_cons_succ]
              refine wpAnyH_take (i := 19) (oi := ⟨some 124, _, _, _, _, _⟩) (v := undef) rfl (by kernel_rfl) (by kernel_rfl) (by kernel_rfl) (fun _ _ _ h => h) (Or.inr ⟨by rfl, rfl⟩) hHeld ?_
              try simp only [Act.put, List.setIfInBounds_toArray, List.set_cons_zero, List.set_cons_succ]
              refine wpAnyH_take (i := 20) (oi := ⟨some 125, _, _, _, _, _⟩) (v := undef) rfl (by kernel_rfl) (by kernel_rfl) (by kernel_rfl) (fun _ _ _ h => h) (Or.inr ⟨by rfl, rfl⟩) hHeld ?_
              try simp only [Act.put, List.setIfInBounds_toArray, List.set_cons_zero, List.set_cons_succ]
              refine wpAnyH_take (i := 21) (oi := ⟨some 126, _, _, _, _, _⟩) (v := undef) rfl (by kernel_rfl) (by kernel_rfl) (by kernel_rfl) (fun _ _ _ h => h) (Or.inr ⟨by rfl, rfl⟩) hHeld ?_
              try simp only [Act.put, List.setIfInBounds_toArray, List.set_cons_zero, List.set_cons_succ]
              refine wpAnyH_take (i := 22) (oi := ⟨some 127, _, _, _, _, _⟩) (v := undef) rfl (by kernel_rfl) (by kernel_rfl) (by kernel_rfl) (fun _ _ _ h => h) (Or.inr ⟨by rfl, rfl⟩) hHeld ?_
              try simp only [Act.put, List.setIfInBounds_toArray, List.set_cons_zero, List.set_cons_succ]
              refine wpAnyH_take (i := 23) (oi := ⟨some 128, _, _, _, _, _⟩) (v := undef) rfl (by kernel_rfl) (by kernel_rfl) (by kernel_rfl) (fun _ _ _ h => h) (Or.inr ⟨by rfl, rfl⟩) hHeld ?_
              try simp only [Act.put, List.setIfInBounds_toArray, List.set_cons_zero, List.set_cons_succ]
              refine wpAnyH_take (i := 24) (oi := ⟨some 129, _, _, _, _, _⟩) (v := undef) rfl (by kernel_rfl) (by kernel_rfl) (by kernel_rfl) (fun _ _ _ h => h) (Or.inr ⟨by rfl, rfl⟩) hHeld ?_
              try simp only [Act.put, List.setIfInBounds_toArray, List.set_cons_zero, List.set_cons_succ]
              refine wpAnyH_take (i := 17) (oi := ⟨some 122, _, _, _, _, _⟩) (v := undef) rfl (by kernel_rfl) (by kernel_rfl) (by kernel_rfl) (fun _ _ _ h => h) (Or.inr ⟨by rfl, rfl⟩) hHeld ?_
              try simp only [Act.put, List.setIfInBounds_toArray, List.set_cons_zero, List.set_cons_succ]
              refine wpAnyH_take (i := 25) (oi := ⟨some 130, _, _, _, _, _⟩) (v := undef) rfl (by kernel_rfl) (by kernel_rfl) (by kernel_rfl) (fun _ _ _ h => h) (Or.inr ⟨by rfl, rfl⟩) hHeld ?_
              try simp only [Act.put, List.setIfInBounds_toArray, List.set_cons_zero, List.set_cons_succ]
              refine wpAnyH_take (i := 26) (oi := ⟨some 131, _, _, _, _, _⟩) (v := undef) rfl (by kernel_rfl) (by kernel_rfl) (by kernel_rfl) (fun _ _ _ h => h) (Or.inr ⟨by rfl, rfl⟩) hHeld ?_
              try simp only [Act.put, List.setIfInBounds_toArray, List.set_cons_zero, List.set_cons_succ]
              refine wpAnyH_take (i := 27) (oi := ⟨some 132, _, _, _, _, _⟩) (v := undef) rfl (by kernel_rfl) (by kernel_rfl) (by kernel_rfl) (fun _ _ _ h => h) (Or.inr ⟨by rfl, rfl⟩) hHeld ?_
              try simp only [Act.put, List.setIfInBounds_toArray, List.set_cons_zero, List.set_cons_succ]
              refine wpAnyH_take (i := 28) (oi := ⟨some 133, _, _, _, _, _⟩) (v := .bool false) rfl (by kernel_rfl) (by kernel_rfl) (by kernel_rfl) (fun _ _ _ h => h) (Or.inl ⟨by rfl, ?_⟩) hHeld ?_
              · intro ww hS
                try dsimp only at hS
                go_simp
                try with_reducible rfl
                try omega
              try simp only [Act.put, List.setIfInBounds_toArray, List.set_cons_zero, List.set_cons_succ]
              refine wpAnyH_done (by kernel_rfl) ?_ _
              clear hHeld
              go_wp2
              go_roundw
              case rel => exact ⟨i + 1, by omega, by rw [hnx.out]; rfl, by go_num, L⟩
              case measure => simp [intOf]; omega
            · simp only [hbT] at THt
              simp only [hbR] at THr
              have hff : hf M ys i = false := by rw [hfi, hbT, hbR]; rfl
              have hnx := Lib.hid (anyF_next hfr hff)
              have hie2 : ((i : Int) == (i0 : Int)) = false := by simp; omega
              clear hfi hff hfr hbT hbR
              go_wp2_with fail
              refine ((TLv _).out).mono ?_
              rintro e w' ⟨rfl, rfl⟩
              go_wp2_with fail
              refine ((TT1 _).out).mono ?_
              rintro e w' ⟨rfl, rfl⟩
              go_wp2_with fail
              refine ((TR1 _).out).mono ?_
              rintro e w' ⟨rfl, rfl⟩
              have X1 := (L.K.cell (p := ⟨bb, oo + cl, none⟩) hbb).trans XT
              go_wp2_with fail
              refine ((THt _).out).mono ?_
              rintro e w' ⟨rfl, rfl⟩
              clear X1
              have X2 := (L.K.cell (p := ⟨bb, oo + rc, none⟩) hbb).trans XR
              go_wp2_with fail
              refine ((THr _).out).mono ?_
              rintro e w' ⟨rfl, rfl⟩
              clear X2
              go_upto_region 22 with (fail)
              replace L := L.drew
              refine wp_region_held_drew (S := fun w' => Loc w w' [(gO, 41, opv h s), (gH, 27, #[.int .u32 (a : Int), .int .i64 p, .slice A n c, .int .i64 (ns : Int), .int .i64 wo, .int .i64 qu, .int .i64 tr])] []) (by kernel_rfl) L (fun hHeld => ?_)
              generalize wr.drew = v7 at hHeld L ⊢
              refine wpAnyH_take (i := 0) (oi := ⟨some 105, _, _, _, _, _⟩) (v := .pointer (some ⟨gO, 8, none⟩)) rfl (by kernel_rfl) (by kernel_rfl) (by kernel_rfl) (fun _ _ _ h => h) (Or.inl ⟨by rfl, ?_⟩) hHeld ?_
              · intro ww hS
                try dsimp only at hS
                go_simp
                try with_reducible rfl
                try omega
              try simp only [Act.put, List.setIfInBounds_toArray, List.set_cons_zero, List.set_cons_succ]
              refine wpAnyH_take (i := 1) (oi := ⟨some 106, _, _, _, _, _⟩) (v := .int .i64 s.phase) rfl (by kernel_rfl) (by kernel_rfl) (by kernel_rfl) (fun _ _ _ h => h) (Or.inl ⟨by rfl, ?_⟩) hHeld ?_
              · intro ww hS
                try dsimp only at hS
                have O_8 := ((hS)).at_ 0 8 rfl (v := .int .i64 s.phase) rfl
                have O_z := ((hS)).lt 0 rfl
                go_simp
                try with_reducible rfl
                try omega
              try simp only [Act.put, List.setIfInBounds_toArray, List.set_cons_zero, List.set_cons_succ]
              refine wpAnyH_take (i := 2) (oi := ⟨some 107, _, _, _, _, _⟩) (v := .bool true) rfl (by kernel_rfl) (by kernel_rfl) (by kernel_rfl) (fun _ _ _ h => h) (Or.inl ⟨by rfl, ?_⟩) hHeld ?_
              · intro ww hS
                try dsimp only at hS
                go_simp
                try with_reducible rfl
                try omega
              try simp only [Act.put, List.setIfInBounds_toArray, List.set_cons_zero, List.set_cons_succ]
              refine wpAnyH_take (i := 3) (oi := ⟨some 108, _, _, _, _, _⟩) (v := .bool true) rfl (by kernel_rfl) (by kernel_rfl) (by kernel_rfl) (fun _ _ _ h => h) (Or.inl ⟨by rfl, ?_⟩) hHeld ?_
              · intro ww hS
                try dsimp only at hS
                go_simp
                try with_reducible rfl
                try omega
              try simp only [Act.put, List.setIfInBounds_toArray, List.set_cons_zero, List.set_cons_succ]
              refine wpAnyH_take (i := 4) (oi := ⟨some 109, _, _, _, _, _⟩) (v := .int .i64 (i : Int)) rfl (by kernel_rfl) (by kernel_rfl) (by kernel_rfl) (fun _ _ _ h => h) (Or.inl ⟨by rfl, ?_⟩) hHeld ?_
              · intro ww hS
                try dsimp only at hS
                go_simp
                try with_reducible rfl
                try omega
              try simp only [Act.put, List.setIfInBounds_toArray, List.set_cons_zero, List.set_cons_succ]
              refine wpAnyH_take (i := 5) (oi := ⟨some 110, _, _, _, _, _⟩) (v := .pointer (some ⟨gO, 11, none⟩)) rfl (by kernel_rfl) (by kernel_rfl) (by kernel_rfl) (fun _ _ _ h => h) (Or.inl ⟨by rfl, ?_⟩) hHeld ?_
              · intro ww hS
                try dsimp only at hS
                go_simp
                try with_reducible rfl
                try omega
              try simp only [Act.put, List.setIfInBounds_toArray, List.set_cons_zero, List.set_cons_succ]
              refine wpAnyH_take (i := 6) (oi := ⟨some 111, _, _, _, _, _⟩) (v := .int .i64 (i0 : Int)) rfl (by kernel_rfl) (by kernel_rfl) (by kernel_rfl) (fun _ _ _ h => h) (Or.inl ⟨by rfl, ?_⟩) hHeld ?_
              · intro ww hS
                try dsimp only at hS
                have O_11 := ((hS)).at_ 0 11 rfl (v := .int .i64 (i0 : Int)) (by show some (Value.int .i64 s.leaf) = _; rw [hlf])
                have O_z := ((hS)).lt 0 rfl
                go_simp
                try with_reducible rfl
                try omega
              try simp only [Act.put, List.setIfInBounds_toArray, List.set_cons_zero, List.set_cons_succ]
              refine wpAnyH_take (i := 7) (oi := ⟨some 112, _, _, _, _, _⟩) (v := .bool false) rfl (by kernel_rfl) (by kernel_rfl) (by kernel_rfl) (fun _ _ _ h => h) (Or.inl ⟨by rfl, ?_⟩) hHeld ?_
              · intro ww hS
                try dsimp only at hS
                go_simp
                try with_reducible rfl
                try omega
              try simp only [Act.put, List.setIfInBounds_toArray, List.set_cons_zero, List.set_cons_succ]
              refine wpAnyH_take (i := 8) (oi := ⟨some 113, _, _, _, _, _⟩) (v := .bool false) rfl (by kernel_rfl) (by kernel_rfl) (by kernel_rfl) (fun _ _ _ h => h) (Or.inl ⟨by rfl, ?_⟩) hHeld ?_
              · intro ww hS
                try dsimp only at hS
                go_simp
                try with_reducible rfl
                try omega
              try simp only [Act.put, List.setIfInBounds_toArray, List.set_cons_zero, List.set_cons_succ]
              refine wpAnyH_take (i := 9) (oi := ⟨some 114, _, _, _, _, _⟩) (v := .bool false) rfl (by kernel_rfl) (by kernel_rfl) (by kernel_rfl) (fun _ _ _ h => h) (Or.inl ⟨by rfl, ?_⟩) hHeld ?_
              · intro ww hS
                try dsimp only at hS
                go_simp
                try with_reducible rfl
                try omega
              try simp only [Act.put, List.setIfInBounds_toArray, List.set_cons_zero, List.set_cons_succ]
              refine wpAnyH_take (i := 10) (oi := ⟨some 115, _, _, _, _, _⟩) (v := undef) rfl (by kernel_rfl) (by kernel_rfl) (by kernel_rfl) (fun _ _ _ h => h) (Or.inr ⟨by rfl, rfl⟩) hHeld ?_
              try simp only [Act.put, List.setIfInBounds_toArray, List.set_cons_zero, List.set_cons_succ]
              refine wpAnyH_take (i := 11) (oi := ⟨some 116, _, _, _, _, _⟩) (v := undef) rfl (by kernel_rfl) (by kernel_rfl) (by kernel_rfl) (fun _ _ _ h => h) (Or.inr ⟨by rfl, rfl⟩) hHeld ?_
              try simp only [Act.put, List.setIfInBounds_toArray, List.set_cons_zero, List.set_cons_succ]
              refine wpAnyH_take (i := 12) (oi := ⟨some 117, _, _, _, _, _⟩) (v := undef) rfl (by kernel_rfl) (by kernel_rfl) (by kernel_rfl) (fun _ _ _ h => h) (Or.inr ⟨by rfl, rfl⟩) hHeld ?_
              try simp only [Act.put, List.setIfInBounds_toArray, List.set_cons_zero, List.set_cons_succ]
              refine wpAnyH_take (i := 13) (oi := ⟨some 118, _, _, _, _, _⟩) (v := undef) rfl (by kernel_rfl) (by kernel_rfl) (by kernel_rfl) (fun _ _ _ h => h) (Or.inr ⟨by rfl, rfl⟩) hHeld ?_
              try simp only [Act.put, List.setIfInBounds_toArray, List.set_cons_zero, List.set_cons_succ]
              refine wpAnyH_take (i := 14) (oi := ⟨some 119, _, _, _, _, _⟩) (v := undef) rfl (by kernel_rfl) (by kernel_rfl) (by kernel_rfl) (fun _ _ _ h => h) (Or.inr ⟨by rfl, rfl⟩) hHeld ?_
              try simp only [Act.put, List.setIfInBounds_toArray, List.set_cons_zero, List.set_cons_succ]
              refine wpAnyH_take (i := 15) (oi := ⟨some 120, _, _, _, _, _⟩) (v := undef) rfl (by kernel_rfl) (by kernel_rfl) (by kernel_rfl) (fun _ _ _ h => h) (Or.inr ⟨by rfl, rfl⟩) hHeld ?_
              try simp only [Act.put, List.setIfInBounds_toArray, List.set_cons_zero, List.set_cons_succ]
              refine wpAnyH_take (i := 16) (oi := ⟨some 121, _, _, _, _, _⟩) (v := undef) rfl (by kernel_rfl) (by kernel_rfl) (by kernel_rfl) (fun _ _ _ h => h) (Or.inr ⟨by rfl, rfl⟩) hHeld ?_
              try simp only [Act.put, List.setIfInBounds_toArray, List.set_cons_zero, List.set_cons_succ]
              refine wpAnyH_take (i := 18) (oi := ⟨some 123, _, _, _, _, _⟩) (v := undef) rfl (by kernel_rfl) (by kernel_rfl) (by kernel_rfl) (fun _ _ _ h => h) (Or.inr ⟨by rfl, rfl⟩) hHeld ?_
              try simp only [Act.put, List.setIfInBounds_toArray, List.set_cons_zero, List.set_cons_succ]
              refine wpAnyH_take (i := 19) (oi := ⟨some 124, _, _, _, _, _⟩) (v := undef) rfl (by kernel_rfl) (by kernel_rfl) (by kernel_rfl) (fun _ _ _ h => h) (Or.inr ⟨by rfl, rfl⟩) hHeld ?_
              try simp only [Act.put, List.setIfInBounds_toArray, List.set_cons_zero, List.set_cons_succ]
              refine wpAnyH_take (i := 20) (oi := ⟨some 125, _, _, _, _, _⟩) (v := undef) rfl (by kernel_rfl) (by kernel_rfl) (by kernel_rfl) (fun _ _ _ h => h) (Or.inr ⟨by rfl, rfl⟩) hHeld ?_
              try simp only [Act.put, List.setIfInBounds_toArray, List.set_cons_zero, List.set_cons_succ]
              refine wpAnyH_take (i := 21) (oi := ⟨some 126, _, _, _, _, _⟩) (v := undef) rfl (by kernel_rfl) (by kernel_rfl) (by kernel_rfl) (fun _ _ _ h => h) (Or.inr ⟨by rfl, rfl⟩) hHeld ?_
              try simp only [Act.put, List.setIfInBounds_toArray, List.set_cons_zero, List.set_cons_succ]
              refine wpAnyH_take (i := 22) (oi := ⟨some 127, _, _, _, _, _⟩) (v := undef) rfl (by kernel_rfl) (by kernel_rfl) (by kernel_rfl) (fun _ _ _ h => h) (Or.inr ⟨by rfl, rfl⟩) hHeld ?_
              try simp only [Act.put, List.setIfInBounds_toArray, List.set_cons_zero, List.set_cons_succ]
              refine wpAnyH_take (i := 23) (oi := ⟨some 128, _, _, _, _, _⟩) (v := undef) rfl (by kernel_rfl) (by kernel_rfl) (by kernel_rfl) (fun _ _ _ h => h) (Or.inr ⟨by rfl, rfl⟩) hHeld ?_
              try simp only [Act.put, List.setIfInBounds_toArray, List.set_cons_zero, List.set_cons_succ]
              refine wpAnyH_take (i := 24) (oi := ⟨some 129, _, _, _, _, _⟩) (v := undef) rfl (by kernel_rfl) (by kernel_rfl) (by kernel_rfl) (fun _ _ _ h => h) (Or.inr ⟨by rfl, rfl⟩) hHeld ?_
              try simp only [Act.put, List.setIfInBounds_toArray, List.set_cons_zero, List.set_cons_succ]
              refine wpAnyH_take (i := 17) (oi := ⟨some 122, _, _, _, _, _⟩) (v := undef) rfl (by kernel_rfl) (by kernel_rfl) (by kernel_rfl) (fun _ _ _ h => h) (Or.inr ⟨by rfl, rfl⟩) hHeld ?_
              try simp only [Act.put, List.setIfInBounds_toArray, List.set_cons_zero, List.set_cons_succ]
              refine wpAnyH_take (i := 25) (oi := ⟨some 130, _, _, _, _, _⟩) (v := undef) rfl (by kernel_rfl) (by kernel_rfl) (by kernel_rfl) (fun _ _ _ h => h) (Or.inr ⟨by rfl, rfl⟩) hHeld ?_
              try simp only [Act.put, List.setIfInBounds_toArray, List.set_cons_zero, List.set_cons_succ]
              refine wpAnyH_take (i := 26) (oi := ⟨some 131, _, _, _, _, _⟩) (v := undef) rfl (by kernel_rfl) (by kernel_rfl) (by kernel_rfl) (fun _ _ _ h => h) (Or.inr ⟨by rfl, rfl⟩) hHeld ?_
              try simp only [Act.put, List.setIfInBounds_toArray, List.set_cons_zero, List.set_cons_succ]
              refine wpAnyH_take (i := 27) (oi := ⟨some 132, _, _, _, _, _⟩) (v := undef) rfl (by kernel_rfl) (by kernel_rfl) (by kernel_rfl) (fun _ _ _ h => h) (Or.inr ⟨by rfl, rfl⟩) hHeld ?_
              try simp only [Act.put, List.setIfInBounds_toArray, List.set_cons_zero, List.set_cons_succ]
              refine wpAnyH_take (i := 28) (oi := ⟨some 133, _, _, _, _, _⟩) (v := .bool false) rfl (by kernel_rfl) (by kernel_rfl) (by kernel_rfl) (fun _ _ _ h => h) (Or.inl ⟨by rfl, ?_⟩) hHeld ?_
              · intro ww hS
                try dsimp only at hS
                go_simp
                try with_reducible rfl
                try omega
              try simp only [Act.put, List.setIfInBounds_toArray, List.set_cons_zero, List.set_cons_succ]
              refine wpAnyH_done (by kernel_rfl) ?_ _
              clear hHeld
              go_wp2
              go_roundw
              case rel => exact ⟨i + 1, by omega, by rw [hnx.out]; rfl, by go_num, L⟩
              case measure => simp [intOf]; omega
        · have hiL : i = LV := by omega
          subst hiL
          clear hi TTo TRo
          have hfr1 : fr = true := by rw [← hfr]; exact anyF_yes (by have := hLV.out; omega) hun.out
          subst hfr1
          have hno : ¬ (i < i) := by omega
          go_wp2_with fail
          refine ((TLv _).out).mono ?_
          rintro e w' ⟨rfl, rfl⟩
          have O_8 := L.at_ 0 8 rfl (v := .int .i64 s.phase) rfl
          have O_z := L.lt 0 rfl
          go_wp2_with fail
          clear O_8 O_z
          go_ret
          exact ⟨rfl, L.K⟩
    · clear TS
      have hgt1 : decide (MS < u) = false := by simp; omega
      have hgt2 : ¬ (MS < u) := by omega
      have hp1 : (s.phase == 1) = false := by rw [hS.ph]; rfl
      have hp2 : (s.phase == 2) = false := by rw [hS.ph]; rfl
      have hp6 : (s.phase == 6) = true := by rw [hS.ph]; rfl
      have hall := Lib.hid (fun i (hi : i < lv M) => sk_done hn1 hhd hS hi)
      have hso2 : (s.sought == (ns : Int)) = true := by rw [hS.so]; simp
      clear hS
      have TLv := fun w => Lib.hid (rleaves_any M hM4 w)
      have TTo := fun i (hi : i ≤ 65536) w => Lib.hid (rtop_any M i hM4 hi w)
      have TRo := fun i (hi : i ≤ 65536) w => Lib.hid (rroot_any M i hM4 hi w)
      have O_8 := L.at_ 0 8 rfl (v := .int .i64 s.phase) rfl
      have O_z := L.lt 0 rfl
      go_wp2_with fail
      clear O_8 O_z
      obtain ⟨LV, hLV⟩ : ∃ LV, LV = lv M := ⟨_, rfl⟩
      rw [← hLV] at TLv
      replace hLV := Lib.hid hLV
      go_loopw [12, 13] (fun fv iv wr => ∃ i : Nat, i ≤ LV ∧ fv = .bool (anyF M ys i) ∧ iv = .int .i64 (i : Nat) ∧ Loc w wr [(gO, 41, opv h s), (gH, 27, #[.int .u32 (a : Int), .int .i64 p, .slice A n c, .int .i64 (ns : Int), .int .i64 wo, .int .i64 qu, .int .i64 tr])] []) (fun _ iv _ => LV - (intOf iv).toNat)
      case atStart => exact ⟨0, Nat.zero_le _, rfl, rfl, L⟩
      case round =>
        clear L
        obtain ⟨i, hi, rfl, rfl, L⟩ := hrel
        obtain ⟨fr, hfr⟩ : ∃ fr, anyF M ys i = fr := ⟨_, rfl⟩
        rw [hfr]
        by_cases hlt : i < LV
        · have hi65 : i ≤ 65536 := by have := hLV.out; omega
          have hiL : i < lv M := by have := hLV.out; omega
          have TT1 := TTo i hi65
          have TR1 := TRo i hi65
          clear TTo TRo
          have hct : lv M + i / 64 < m ∧ lv M + tv M < m := by unfold tv tq at hmt ⊢; omega
          obtain ⟨wT, hwT⟩ : ∃ x, gt ys (lv M + i / 64) = x := ⟨_, rfl⟩
          obtain ⟨wR, hwR⟩ : ∃ x, gt ys (lv M + tv M) = x := ⟨_, rfl⟩
          have hwT64 := gt_lt hU.fit (lv M + i / 64)
          have hwR64 := gt_lt hU.fit (lv M + tv M)
          rw [hwT] at hwT64
          rw [hwR] at hwR64
          have hfi : hf M ys i = (wT.testBit (i % 64) || wR.testBit (i / 64)) := by unfold hf; rw [hwT, hwR]
          have XT := hU.here hct.1
          have XR := hU.here hct.2
          rw [hwT] at XT
          rw [hwR] at XR
          have hrb64 : i / 64 < 64 := by omega
          have htb64 : i % 64 < 64 := by omega
          clear hwT hwR
          generalize lv M + i / 64 = cl at *
          generalize lv M + tv M = rc at *
          generalize i / 64 = rb at *
          generalize i % 64 = tb at *
          obtain ⟨hc1, hc2⟩ := hct
          have hc1i : (cl : Int) < (m : Int) := by omega
          have hc2i : (rc : Int) < (m : Int) := by omega
          have hlt2 : (i : Int) < (LV : Int) := by omega
          have THt := fun w => Lib.hid (rhas_any wT tb hwT64 htb64 w)
          have THr := fun w => Lib.hid (rhas_any wR rb hwR64 hrb64 w)
          have hfr0 : fr = false := by rw [← hfr]; exact anyF_no fun j hj => hall.out j (by omega)
          subst hfr0
          have hfull := hall.out i hiL
          rw [hfi] at hfull
          cases hbT : wT.testBit tb
          rotate_left
          · simp only [hbT] at THt
            have hff : hf M ys i = true := by rw [hfi, hbT]; rfl
            have hnx := Lib.hid (anyF_next hfr hff)
            clear hfi hff hfr hbT
            go_wp2_with fail
            refine ((TLv _).out).mono ?_
            rintro e w' ⟨rfl, rfl⟩
            go_wp2_with fail
            refine ((TT1 _).out).mono ?_
            rintro e w' ⟨rfl, rfl⟩
            go_wp2_with fail
            refine ((TR1 _).out).mono ?_
            rintro e w' ⟨rfl, rfl⟩
            have X1 := (L.K.cell (p := ⟨bb, oo + cl, none⟩) hbb).trans XT
            go_wp2_with fail
            refine ((THt _).out).mono ?_
            rintro e w' ⟨rfl, rfl⟩
            clear X1
            go_upto_region 22 with (fail)
            replace L := L.drew
            refine wp_region_held_drew (S := fun w' => Loc w w' [(gO, 41, opv h s), (gH, 27, #[.int .u32 (a : Int), .int .i64 p, .slice A n c, .int .i64 (ns : Int), .int .i64 wo, .int .i64 qu, .int .i64 tr])] []) (by kernel_rfl) L (fun hHeld => ?_)
            generalize wr.drew = v7 at hHeld L ⊢
            refine wpAnyH_take (i := 0) (oi := ⟨some 105, _, _, _, _, _⟩) (v := .pointer (some ⟨gO, 8, none⟩)) rfl (by kernel_rfl) (by kernel_rfl) (by kernel_rfl) (fun _ _ _ h => h) (Or.inl ⟨by rfl, ?_⟩) hHeld ?_
            · intro ww hS
              try dsimp only at hS
              go_simp
              try with_reducible rfl
              try omega
            try simp only [Act.put, List.setIfInBounds_toArray, List.set_cons_zero, List.set_cons_succ]
            refine wpAnyH_take (i := 1) (oi := ⟨some 106, _, _, _, _, _⟩) (v := .int .i64 s.phase) rfl (by kernel_rfl) (by kernel_rfl) (by kernel_rfl) (fun _ _ _ h => h) (Or.inl ⟨by rfl, ?_⟩) hHeld ?_
            · intro ww hS
              try dsimp only at hS
              have O_8 := ((hS)).at_ 0 8 rfl (v := .int .i64 s.phase) rfl
              have O_z := ((hS)).lt 0 rfl
              go_simp
              try with_reducible rfl
              try omega
            try simp only [Act.put, List.setIfInBounds_toArray, List.set_cons_zero, List.set_cons_succ]
            refine wpAnyH_take (i := 2) (oi := ⟨some 107, _, _, _, _, _⟩) (v := .bool false) rfl (by kernel_rfl) (by kernel_rfl) (by kernel_rfl) (fun _ _ _ h => h) (Or.inl ⟨by rfl, ?_⟩) hHeld ?_
            · intro ww hS
              try dsimp only at hS
              go_simp
              try with_reducible rfl
              try omega
            try simp only [Act.put, List.setIfInBounds_toArray, List.set_cons_zero, List.set_cons_succ]
            refine wpAnyH_take (i := 3) (oi := ⟨some 108, _, _, _, _, _⟩) (v := .bool false) rfl (by kernel_rfl) (by kernel_rfl) (by kernel_rfl) (fun _ _ _ h => h) (Or.inl ⟨by rfl, ?_⟩) hHeld ?_
            · intro ww hS
              try dsimp only at hS
              go_simp
              try with_reducible rfl
              try omega
            try simp only [Act.put, List.setIfInBounds_toArray, List.set_cons_zero, List.set_cons_succ]
            refine wpAnyH_take (i := 4) (oi := ⟨some 109, _, _, _, _, _⟩) (v := undef) rfl (by kernel_rfl) (by kernel_rfl) (by kernel_rfl) (fun _ _ _ h => h) (Or.inr ⟨by rfl, rfl⟩) hHeld ?_
            try simp only [Act.put, List.setIfInBounds_toArray, List.set_cons_zero, List.set_cons_succ]
            refine wpAnyH_take (i := 5) (oi := ⟨some 110, _, _, _, _, _⟩) (v := undef) rfl (by kernel_rfl) (by kernel_rfl) (by kernel_rfl) (fun _ _ _ h => h) (Or.inr ⟨by rfl, rfl⟩) hHeld ?_
            try simp only [Act.put, List.setIfInBounds_toArray, List.set_cons_zero, List.set_cons_succ]
            refine wpAnyH_take (i := 6) (oi := ⟨some 111, _, _, _, _, _⟩) (v := undef) rfl (by kernel_rfl) (by kernel_rfl) (by kernel_rfl) (fun _ _ _ h => h) (Or.inr ⟨by rfl, rfl⟩) hHeld ?_
            try simp only [Act.put, List.setIfInBounds_toArray, List.set_cons_zero, List.set_cons_succ]
            refine wpAnyH_take (i := 7) (oi := ⟨some 112, _, _, _, _, _⟩) (v := undef) rfl (by kernel_rfl) (by kernel_rfl) (by kernel_rfl) (fun _ _ _ h => h) (Or.inr ⟨by rfl, rfl⟩) hHeld ?_
            try simp only [Act.put, List.setIfInBounds_toArray, List.set_cons_zero, List.set_cons_succ]
            refine wpAnyH_take (i := 8) (oi := ⟨some 113, _, _, _, _, _⟩) (v := .bool false) rfl (by kernel_rfl) (by kernel_rfl) (by kernel_rfl) (fun _ _ _ h => h) (Or.inl ⟨by rfl, ?_⟩) hHeld ?_
            · intro ww hS
              try dsimp only at hS
              go_simp
              try with_reducible rfl
              try omega
            try simp only [Act.put, List.setIfInBounds_toArray, List.set_cons_zero, List.set_cons_succ]
            refine wpAnyH_take (i := 9) (oi := ⟨some 114, _, _, _, _, _⟩) (v := .bool false) rfl (by kernel_rfl) (by kernel_rfl) (by kernel_rfl) (fun _ _ _ h => h) (Or.inl ⟨by rfl, ?_⟩) hHeld ?_
            · intro ww hS
              try dsimp only at hS
              go_simp
              try with_reducible rfl
              try omega
            try simp only [Act.put, List.setIfInBounds_toArray, List.set_cons_zero, List.set_cons_succ]
            refine wpAnyH_take (i := 10) (oi := ⟨some 115, _, _, _, _, _⟩) (v := undef) rfl (by kernel_rfl) (by kernel_rfl) (by kernel_rfl) (fun _ _ _ h => h) (Or.inr ⟨by rfl, rfl⟩) hHeld ?_
            try simp only [Act.put, List.setIfInBounds_toArray, List.set_cons_zero, List.set_cons_succ]
            refine wpAnyH_take (i := 11) (oi := ⟨some 116, _, _, _, _, _⟩) (v := undef) rfl (by kernel_rfl) (by kernel_rfl) (by kernel_rfl) (fun _ _ _ h => h) (Or.inr ⟨by rfl, rfl⟩) hHeld ?_
            try simp only [Act.put, List.setIfInBounds_toArray, List.set_cons_zero, List.set_cons_succ]
            refine wpAnyH_take (i := 12) (oi := ⟨some 117, _, _, _, _, _⟩) (v := undef) rfl (by kernel_rfl) (by kernel_rfl) (by kernel_rfl) (fun _ _ _ h => h) (Or.inr ⟨by rfl, rfl⟩) hHeld ?_
            try simp only [Act.put, List.setIfInBounds_toArray, List.set_cons_zero, List.set_cons_succ]
            refine wpAnyH_take (i := 13) (oi := ⟨some 118, _, _, _, _, _⟩) (v := undef) rfl (by kernel_rfl) (by kernel_rfl) (by kernel_rfl) (fun _ _ _ h => h) (Or.inr ⟨by rfl, rfl⟩) hHeld ?_
            try simp only [Act.put, List.setIfInBounds_toArray, List.set_cons_zero, List.set_cons_succ]
            refine wpAnyH_take (i := 14) (oi := ⟨some 119, _, _, _, _, _⟩) (v := undef) rfl (by kernel_rfl) (by kernel_rfl) (by kernel_rfl) (fun _ _ _ h => h) (Or.inr ⟨by rfl, rfl⟩) hHeld ?_
            try simp only [Act.put, List.setIfInBounds_toArray, List.set_cons_zero, List.set_cons_succ]
            refine wpAnyH_take (i := 15) (oi := ⟨some 120, _, _, _, _, _⟩) (v := undef) rfl (by kernel_rfl) (by kernel_rfl) (by kernel_rfl) (fun _ _ _ h => h) (Or.inr ⟨by rfl, rfl⟩) hHeld ?_
            try simp only [Act.put, List.setIfInBounds_toArray, List.set_cons_zero, List.set_cons_succ]
            refine wpAnyH_take (i := 16) (oi := ⟨some 121, _, _, _, _, _⟩) (v := undef) rfl (by kernel_rfl) (by kernel_rfl) (by kernel_rfl) (fun _ _ _ h => h) (Or.inr ⟨by rfl, rfl⟩) hHeld ?_
            try simp only [Act.put, List.setIfInBounds_toArray, List.set_cons_zero, List.set_cons_succ]
            refine wpAnyH_take (i := 18) (oi := ⟨some 123, _, _, _, _, _⟩) (v := undef) rfl (by kernel_rfl) (by kernel_rfl) (by kernel_rfl) (fun _ _ _ h => h) (Or.inr ⟨by rfl, rfl⟩) hHeld ?_
            try simp only [Act.put, List.setIfInBounds_toArray, List.set_cons_zero, List.set_cons_succ]
            refine wpAnyH_take (i := 19) (oi := ⟨some 124, _, _, _, _, _⟩) (v := undef) rfl (by kernel_rfl) (by kernel_rfl) (by kernel_rfl) (fun _ _ _ h => h) (Or.inr ⟨by rfl, rfl⟩) hHeld ?_
            try simp only [Act.put, List.setIfInBounds_toArray, List.set_cons_zero, List.set_cons_succ]
            refine wpAnyH_take (i := 20) (oi := ⟨some 125, _, _, _, _, _⟩) (v := undef) rfl (by kernel_rfl) (by kernel_rfl) (by kernel_rfl) (fun _ _ _ h => h) (Or.inr ⟨by rfl, rfl⟩) hHeld ?_
            try simp only [Act.put, List.setIfInBounds_toArray, List.set_cons_zero, List.set_cons_succ]
            refine wpAnyH_take (i := 21) (oi := ⟨some 126, _, _, _, _, _⟩) (v := undef) rfl (by kernel_rfl) (by kernel_rfl) (by kernel_rfl) (fun _ _ _ h => h) (Or.inr ⟨by rfl, rfl⟩) hHeld ?_
            try simp only [Act.put, List.setIfInBounds_toArray, List.set_cons_zero, List.set_cons_succ]
            refine wpAnyH_take (i := 22) (oi := ⟨some 127, _, _, _, _, _⟩) (v := undef) rfl (by kernel_rfl) (by kernel_rfl) (by kernel_rfl) (fun _ _ _ h => h) (Or.inr ⟨by rfl, rfl⟩) hHeld ?_
            try simp only [Act.put, List.setIfInBounds_toArray, List.set_cons_zero, List.set_cons_succ]
            refine wpAnyH_take (i := 23) (oi := ⟨some 128, _, _, _, _, _⟩) (v := undef) rfl (by kernel_rfl) (by kernel_rfl) (by kernel_rfl) (fun _ _ _ h => h) (Or.inr ⟨by rfl, rfl⟩) hHeld ?_
            try simp only [Act.put, List.setIfInBounds_toArray, List.set_cons_zero, List.set_cons_succ]
            refine wpAnyH_take (i := 24) (oi := ⟨some 129, _, _, _, _, _⟩) (v := undef) rfl (by kernel_rfl) (by kernel_rfl) (by kernel_rfl) (fun _ _ _ h => h) (Or.inr ⟨by rfl, rfl⟩) hHeld ?_
            try simp only [Act.put, List.setIfInBounds_toArray, List.set_cons_zero, List.set_cons_succ]
            refine wpAnyH_take (i := 17) (oi := ⟨some 122, _, _, _, _, _⟩) (v := undef) rfl (by kernel_rfl) (by kernel_rfl) (by kernel_rfl) (fun _ _ _ h => h) (Or.inr ⟨by rfl, rfl⟩) hHeld ?_
            try simp only [Act.put, List.setIfInBounds_toArray, List.set_cons_zero, List.set_cons_succ]
            refine wpAnyH_take (i := 25) (oi := ⟨some 130, _, _, _, _, _⟩) (v := undef) rfl (by kernel_rfl) (by kernel_rfl) (by kernel_rfl) (fun _ _ _ h => h) (Or.inr ⟨by rfl, rfl⟩) hHeld ?_
            try simp only [Act.put, List.setIfInBounds_toArray, List.set_cons_zero, List.set_cons_succ]
            refine wpAnyH_take (i := 26) (oi := ⟨some 131, _, _, _, _, _⟩) (v := undef) rfl (by kernel_rfl) (by kernel_rfl) (by kernel_rfl) (fun _ _ _ h => h) (Or.inr ⟨by rfl, rfl⟩) hHeld ?_
            try simp only [Act.put, List.setIfInBounds_toArray, List.set_cons_zero, List.set_cons_succ]
            refine wpAnyH_take (i := 27) (oi := ⟨some 132, _, _, _, _, _⟩) (v := undef) rfl (by kernel_rfl) (by kernel_rfl) (by kernel_rfl) (fun _ _ _ h => h) (Or.inr ⟨by rfl, rfl⟩) hHeld ?_
            try simp only [Act.put, List.setIfInBounds_toArray, List.set_cons_zero, List.set_cons_succ]
            refine wpAnyH_take (i := 28) (oi := ⟨some 133, _, _, _, _, _⟩) (v := .bool false) rfl (by kernel_rfl) (by kernel_rfl) (by kernel_rfl) (fun _ _ _ h => h) (Or.inl ⟨by rfl, ?_⟩) hHeld ?_
            · intro ww hS
              try dsimp only at hS
              go_simp
              try with_reducible rfl
              try omega
            try simp only [Act.put, List.setIfInBounds_toArray, List.set_cons_zero, List.set_cons_succ]
            refine wpAnyH_done (by kernel_rfl) ?_ _
            clear hHeld
            go_wp2
            go_roundw
            case rel => exact ⟨i + 1, by omega, by rw [hnx.out]; rfl, by go_num, L⟩
            case measure => simp [intOf]; omega
          have hbR : wR.testBit rb = true := by rw [hbT] at hfull; simpa using hfull
          simp only [hbT] at THt
          simp only [hbR] at THr
          have hff : hf M ys i = true := by rw [hfi, hbT, hbR]; rfl
          have hnx := Lib.hid (anyF_next hfr hff)
          clear hfi hff hfr hbT hbR
          go_wp2_with fail
          refine ((TLv _).out).mono ?_
          rintro e w' ⟨rfl, rfl⟩
          go_wp2_with fail
          refine ((TT1 _).out).mono ?_
          rintro e w' ⟨rfl, rfl⟩
          go_wp2_with fail
          refine ((TR1 _).out).mono ?_
          rintro e w' ⟨rfl, rfl⟩
          have X1 := (L.K.cell (p := ⟨bb, oo + cl, none⟩) hbb).trans XT
          go_wp2_with fail
          refine ((THt _).out).mono ?_
          rintro e w' ⟨rfl, rfl⟩
          clear X1
          have X2 := (L.K.cell (p := ⟨bb, oo + rc, none⟩) hbb).trans XR
          go_wp2_with fail
          refine ((THr _).out).mono ?_
          rintro e w' ⟨rfl, rfl⟩
          clear X2
          go_upto_region 22 with (fail)
          replace L := L.drew
          refine wp_region_held_drew (S := fun w' => Loc w w' [(gO, 41, opv h s), (gH, 27, #[.int .u32 (a : Int), .int .i64 p, .slice A n c, .int .i64 (ns : Int), .int .i64 wo, .int .i64 qu, .int .i64 tr])] []) (by kernel_rfl) L (fun hHeld => ?_)
          generalize wr.drew = v7 at hHeld L ⊢
          refine wpAnyH_take (i := 0) (oi := ⟨some 105, _, _, _, _, _⟩) (v := .pointer (some ⟨gO, 8, none⟩)) rfl (by kernel_rfl) (by kernel_rfl) (by kernel_rfl) (fun _ _ _ h => h) (Or.inl ⟨by rfl, ?_⟩) hHeld ?_
          · intro ww hS
            try dsimp only at hS
            go_simp
            try with_reducible rfl
            try omega
          try simp only [Act.put, List.setIfInBounds_toArray, List.set_cons_zero, List.set_cons_succ]
          refine wpAnyH_take (i := 1) (oi := ⟨some 106, _, _, _, _, _⟩) (v := .int .i64 s.phase) rfl (by kernel_rfl) (by kernel_rfl) (by kernel_rfl) (fun _ _ _ h => h) (Or.inl ⟨by rfl, ?_⟩) hHeld ?_
          · intro ww hS
            try dsimp only at hS
            have O_8 := ((hS)).at_ 0 8 rfl (v := .int .i64 s.phase) rfl
            have O_z := ((hS)).lt 0 rfl
            go_simp
            try with_reducible rfl
            try omega
          try simp only [Act.put, List.setIfInBounds_toArray, List.set_cons_zero, List.set_cons_succ]
          refine wpAnyH_take (i := 2) (oi := ⟨some 107, _, _, _, _, _⟩) (v := .bool false) rfl (by kernel_rfl) (by kernel_rfl) (by kernel_rfl) (fun _ _ _ h => h) (Or.inl ⟨by rfl, ?_⟩) hHeld ?_
          · intro ww hS
            try dsimp only at hS
            go_simp
            try with_reducible rfl
            try omega
          try simp only [Act.put, List.setIfInBounds_toArray, List.set_cons_zero, List.set_cons_succ]
          refine wpAnyH_take (i := 3) (oi := ⟨some 108, _, _, _, _, _⟩) (v := .bool false) rfl (by kernel_rfl) (by kernel_rfl) (by kernel_rfl) (fun _ _ _ h => h) (Or.inl ⟨by rfl, ?_⟩) hHeld ?_
          · intro ww hS
            try dsimp only at hS
            go_simp
            try with_reducible rfl
            try omega
          try simp only [Act.put, List.setIfInBounds_toArray, List.set_cons_zero, List.set_cons_succ]
          refine wpAnyH_take (i := 4) (oi := ⟨some 109, _, _, _, _, _⟩) (v := undef) rfl (by kernel_rfl) (by kernel_rfl) (by kernel_rfl) (fun _ _ _ h => h) (Or.inr ⟨by rfl, rfl⟩) hHeld ?_
          try simp only [Act.put, List.setIfInBounds_toArray, List.set_cons_zero, List.set_cons_succ]
          refine wpAnyH_take (i := 5) (oi := ⟨some 110, _, _, _, _, _⟩) (v := undef) rfl (by kernel_rfl) (by kernel_rfl) (by kernel_rfl) (fun _ _ _ h => h) (Or.inr ⟨by rfl, rfl⟩) hHeld ?_
          try simp only [Act.put, List.setIfInBounds_toArray, List.set_cons_zero, List.set_cons_succ]
          refine wpAnyH_take (i := 6) (oi := ⟨some 111, _, _, _, _, _⟩) (v := undef) rfl (by kernel_rfl) (by kernel_rfl) (by kernel_rfl) (fun _ _ _ h => h) (Or.inr ⟨by rfl, rfl⟩) hHeld ?_
          try simp only [Act.put, List.setIfInBounds_toArray, List.set_cons_zero, List.set_cons_succ]
          refine wpAnyH_take (i := 7) (oi := ⟨some 112, _, _, _, _, _⟩) (v := undef) rfl (by kernel_rfl) (by kernel_rfl) (by kernel_rfl) (fun _ _ _ h => h) (Or.inr ⟨by rfl, rfl⟩) hHeld ?_
          try simp only [Act.put, List.setIfInBounds_toArray, List.set_cons_zero, List.set_cons_succ]
          refine wpAnyH_take (i := 8) (oi := ⟨some 113, _, _, _, _, _⟩) (v := .bool false) rfl (by kernel_rfl) (by kernel_rfl) (by kernel_rfl) (fun _ _ _ h => h) (Or.inl ⟨by rfl, ?_⟩) hHeld ?_
          · intro ww hS
            try dsimp only at hS
            go_simp
            try with_reducible rfl
            try omega
          try simp only [Act.put, List.setIfInBounds_toArray, List.set_cons_zero, List.set_cons_succ]
          refine wpAnyH_take (i := 9) (oi := ⟨some 114, _, _, _, _, _⟩) (v := .bool false) rfl (by kernel_rfl) (by kernel_rfl) (by kernel_rfl) (fun _ _ _ h => h) (Or.inl ⟨by rfl, ?_⟩) hHeld ?_
          · intro ww hS
            try dsimp only at hS
            go_simp
            try with_reducible rfl
            try omega
          try simp only [Act.put, List.setIfInBounds_toArray, List.set_cons_zero, List.set_cons_succ]
          refine wpAnyH_take (i := 10) (oi := ⟨some 115, _, _, _, _, _⟩) (v := undef) rfl (by kernel_rfl) (by kernel_rfl) (by kernel_rfl) (fun _ _ _ h => h) (Or.inr ⟨by rfl, rfl⟩) hHeld ?_
          try simp only [Act.put, List.setIfInBounds_toArray, List.set_cons_zero, List.set_cons_succ]
          refine wpAnyH_take (i := 11) (oi := ⟨some 116, _, _, _, _, _⟩) (v := undef) rfl (by kernel_rfl) (by kernel_rfl) (by kernel_rfl) (fun _ _ _ h => h) (Or.inr ⟨by rfl, rfl⟩) hHeld ?_
          try simp only [Act.put, List.setIfInBounds_toArray, List.set_cons_zero, List.set_cons_succ]
          refine wpAnyH_take (i := 12) (oi := ⟨some 117, _, _, _, _, _⟩) (v := undef) rfl (by kernel_rfl) (by kernel_rfl) (by kernel_rfl) (fun _ _ _ h => h) (Or.inr ⟨by rfl, rfl⟩) hHeld ?_
          try simp only [Act.put, List.setIfInBounds_toArray, List.set_cons_zero, List.set_cons_succ]
          refine wpAnyH_take (i := 13) (oi := ⟨some 118, _, _, _, _, _⟩) (v := undef) rfl (by kernel_rfl) (by kernel_rfl) (by kernel_rfl) (fun _ _ _ h => h) (Or.inr ⟨by rfl, rfl⟩) hHeld ?_
          try simp only [Act.put, List.setIfInBounds_toArray, List.set_cons_zero, List.set_cons_succ]
          refine wpAnyH_take (i := 14) (oi := ⟨some 119, _, _, _, _, _⟩) (v := undef) rfl (by kernel_rfl) (by kernel_rfl) (by kernel_rfl) (fun _ _ _ h => h) (Or.inr ⟨by rfl, rfl⟩) hHeld ?_
          try simp only [Act.put, List.setIfInBounds_toArray, List.set_cons_zero, List.set_cons_succ]
          refine wpAnyH_take (i := 15) (oi := ⟨some 120, _, _, _, _, _⟩) (v := undef) rfl (by kernel_rfl) (by kernel_rfl) (by kernel_rfl) (fun _ _ _ h => h) (Or.inr ⟨by rfl, rfl⟩) hHeld ?_
          try simp only [Act.put, List.setIfInBounds_toArray, List.set_cons_zero, List.set_cons_succ]
          refine wpAnyH_take (i := 16) (oi := ⟨some 121, _, _, _, _, _⟩) (v := undef) rfl (by kernel_rfl) (by kernel_rfl) (by kernel_rfl) (fun _ _ _ h => h) (Or.inr ⟨by rfl, rfl⟩) hHeld ?_
          try simp only [Act.put, List.setIfInBounds_toArray, List.set_cons_zero, List.set_cons_succ]
          refine wpAnyH_take (i := 18) (oi := ⟨some 123, _, _, _, _, _⟩) (v := undef) rfl (by kernel_rfl) (by kernel_rfl) (by kernel_rfl) (fun _ _ _ h => h) (Or.inr ⟨by rfl, rfl⟩) hHeld ?_
          try simp only [Act.put, List.setIfInBounds_toArray, List.set_cons_zero, List.set_cons_succ]
          refine wpAnyH_take (i := 19) (oi := ⟨some 124, _, _, _, _, _⟩) (v := undef) rfl (by kernel_rfl) (by kernel_rfl) (by kernel_rfl) (fun _ _ _ h => h) (Or.inr ⟨by rfl, rfl⟩) hHeld ?_
          try simp only [Act.put, List.setIfInBounds_toArray, List.set_cons_zero, List.set_cons_succ]
          refine wpAnyH_take (i := 20) (oi := ⟨some 125, _, _, _, _, _⟩) (v := undef) rfl (by kernel_rfl) (by kernel_rfl) (by kernel_rfl) (fun _ _ _ h => h) (Or.inr ⟨by rfl, rfl⟩) hHeld ?_
          try simp only [Act.put, List.setIfInBounds_toArray, List.set_cons_zero, List.set_cons_succ]
          refine wpAnyH_take (i := 21) (oi := ⟨some 126, _, _, _, _, _⟩) (v := undef) rfl (by kernel_rfl) (by kernel_rfl) (by kernel_rfl) (fun _ _ _ h => h) (Or.inr ⟨by rfl, rfl⟩) hHeld ?_
          try simp only [Act.put, List.setIfInBounds_toArray, List.set_cons_zero, List.set_cons_succ]
          refine wpAnyH_take (i := 22) (oi := ⟨some 127, _, _, _, _, _⟩) (v := undef) rfl (by kernel_rfl) (by kernel_rfl) (by kernel_rfl) (fun _ _ _ h => h) (Or.inr ⟨by rfl, rfl⟩) hHeld ?_
          try simp only [Act.put, List.setIfInBounds_toArray, List.set_cons_zero, List.set_cons_succ]
          refine wpAnyH_take (i := 23) (oi := ⟨some 128, _, _, _, _, _⟩) (v := undef) rfl (by kernel_rfl) (by kernel_rfl) (by kernel_rfl) (fun _ _ _ h => h) (Or.inr ⟨by rfl, rfl⟩) hHeld ?_
          try simp only [Act.put, List.setIfInBounds_toArray, List.set_cons_zero, List.set_cons_succ]
          refine wpAnyH_take (i := 24) (oi := ⟨some 129, _, _, _, _, _⟩) (v := undef) rfl (by kernel_rfl) (by kernel_rfl) (by kernel_rfl) (fun _ _ _ h => h) (Or.inr ⟨by rfl, rfl⟩) hHeld ?_
          try simp only [Act.put, List.setIfInBounds_toArray, List.set_cons_zero, List.set_cons_succ]
          refine wpAnyH_take (i := 17) (oi := ⟨some 122, _, _, _, _, _⟩) (v := undef) rfl (by kernel_rfl) (by kernel_rfl) (by kernel_rfl) (fun _ _ _ h => h) (Or.inr ⟨by rfl, rfl⟩) hHeld ?_
          try simp only [Act.put, List.setIfInBounds_toArray, List.set_cons_zero, List.set_cons_succ]
          refine wpAnyH_take (i := 25) (oi := ⟨some 130, _, _, _, _, _⟩) (v := undef) rfl (by kernel_rfl) (by kernel_rfl) (by kernel_rfl) (fun _ _ _ h => h) (Or.inr ⟨by rfl, rfl⟩) hHeld ?_
          try simp only [Act.put, List.setIfInBounds_toArray, List.set_cons_zero, List.set_cons_succ]
          refine wpAnyH_take (i := 26) (oi := ⟨some 131, _, _, _, _, _⟩) (v := undef) rfl (by kernel_rfl) (by kernel_rfl) (by kernel_rfl) (fun _ _ _ h => h) (Or.inr ⟨by rfl, rfl⟩) hHeld ?_
          try simp only [Act.put, List.setIfInBounds_toArray, List.set_cons_zero, List.set_cons_succ]
          refine wpAnyH_take (i := 27) (oi := ⟨some 132, _, _, _, _, _⟩) (v := undef) rfl (by kernel_rfl) (by kernel_rfl) (by kernel_rfl) (fun _ _ _ h => h) (Or.inr ⟨by rfl, rfl⟩) hHeld ?_
          try simp only [Act.put, List.setIfInBounds_toArray, List.set_cons_zero, List.set_cons_succ]
          refine wpAnyH_take (i := 28) (oi := ⟨some 133, _, _, _, _, _⟩) (v := .bool false) rfl (by kernel_rfl) (by kernel_rfl) (by kernel_rfl) (fun _ _ _ h => h) (Or.inl ⟨by rfl, ?_⟩) hHeld ?_
          · intro ww hS
            try dsimp only at hS
            go_simp
            try with_reducible rfl
            try omega
          try simp only [Act.put, List.setIfInBounds_toArray, List.set_cons_zero, List.set_cons_succ]
          refine wpAnyH_done (by kernel_rfl) ?_ _
          clear hHeld
          go_wp2
          go_roundw
          case rel => exact ⟨i + 1, by omega, by rw [hnx.out]; rfl, by go_num, L⟩
          case measure => simp [intOf]; omega
        · have hiL : i = LV := by omega
          subst hiL
          clear hi TTo TRo
          have hfr1 : fr = false := by rw [← hfr]; exact anyF_no fun j hj => hall.out j (by have := hLV.out; omega)
          subst hfr1
          have hno : ¬ (i < i) := by omega
          go_wp2_with fail
          refine ((TLv _).out).mono ?_
          rintro e w' ⟨rfl, rfl⟩
          have O_8 := L.at_ 0 8 rfl (v := .int .i64 s.phase) rfl
          have O_10 := L.at_ 0 10 rfl (v := .int .i64 s.sought) rfl
          have H_3 := L.at_ 1 3 rfl (v := .int .i64 (ns : Int)) rfl
          have O_z := L.lt 0 rfl
          have H_z := L.lt 1 rfl
          go_wp2_with fail
          clear O_8 O_10 H_3 O_z H_z
          go_ret
          exact ⟨rfl, L.K⟩
end
theorem walk (a p : Int) (A : Option Addr) (n c : Nat) (z : List Int) (sh wo qu tr : Int) (B : Option Addr) (m d : Nat) (zb : List Int) (x : Int) (w : World) (wa : (Lit.int .u32 a).wf = true) (wr : IsRow .i64 w A n c z) (wb : IsRow .u64 w B m d zb) (wx : (Lit.int .u8 x).wf = true) :
    Calls Try.prog 3 #[.agg #[.int .u32 a, .int .i64 p, .slice A n c, .int .i64 sh, .int .i64 wo, .int .i64 qu, .int .i64 tr], .slice B m d, .int .u8 x] w fun e w' => e = .returned (.bool true) ∧ Below w.heap.size w w' := by
  obtain ⟨a, rfl, ha⟩ := wf_u32 wa
  obtain ⟨zs, h0, _⟩ := IS.of_row wr
  obtain ⟨ys, hU⟩ := US.of_row wb
  obtain ⟨X, rfl, hX⟩ := wf_u8 wx
  exact main ha h0 hU hX
end Go.Proofs.Ytlaejiephpmniaa.seekEnds
