/-
  The walk of the law SeekNext: for every configuration, cells and home it answers true.
-/
import Derived.Test.YtlaejiephpmniaaSeekFits
import Derived.Test.YtlaejiephpmniaaSeekWalk
namespace Go.Proofs.Ytlaejiephpmniaa.seekNext
open Go.RowKit
set_option linter.unusedVariables false
section
variable {w : World} {lo a m d X : Nat} {p sh wo qu tr : Int} {A B : Option Addr} {n c : Nat} {zs : List Int} {ys : List Nat}
set_option maxRecDepth 100000 in
set_option maxHeartbeats 4000000 in
theorem main (ha : a < 4294967296) (h0 : IS .i64 lo w A n c zs) (hU : US w B m d ys) (hX : X < 256) :
    Calls Try.prog 4 #[.agg #[.int .u32 (a : Int), .int .i64 p, .slice A n c, .int .i64 sh, .int .i64 wo, .int .i64 qu, .int .i64 tr], .slice B m d, .int .u8 (X : Int)] w (RetBo true w) := by
  go_enter Try.func4, Try.ntmps4
  go_upto_region 1 with (fail)
  have L := Loc.start w
  replace L := (L).alloc #[.int .u32 (a : Int), .int .i64 p, .slice A n c, .int .i64 sh, .int .i64 wo, .int .i64 qu, .int .i64 tr] 27
  try simp only [World.size_alloc] at L
  try dsimp only [nput] at L
  generalize (w).alloc (.cells #[.int .u32 (a : Int), .int .i64 p, .slice A n c, .int .i64 sh, .int .i64 wo, .int .i64 qu, .int .i64 tr] 27) = w1 at L ⊢
  generalize w.heap.size = gH at L ⊢
  go_wp2_with fail
  refine (awake_any _).mono ?_
  rintro e w2 ⟨rfl, K'⟩
  replace L := L.over K'
  go_wp2_with (refine wpList_load_want (by rfl) 27 (.tmp 3) rfl gH rfl _ _ (0, 0) _ (L.bk_ 0 rfl) Try.underlying27 rfl cf_sz ?_)
  refine (fitsS_any ha (h0.below L.K)).mono ?_
  rintro e w3 ⟨bo, rfl, hB, K'⟩
  replace L := L.over K'
  rcases bo with _ | _
  · clear hB
    go_wp2_with fail
    refine (awake_any _).mono ?_
    rintro e w92 ⟨rfl, K'⟩
    replace L := L.over K'
    go_wp2
    go_ret
    exact ⟨rfl, L.K⟩
  replace hB := hB rfl
  obtain ⟨hB, hsh1, hsh2⟩ := hB
  unfold FitP at hB
  obtain ⟨M, hMe⟩ : ∃ M, M = 2 ^ (32 - p.toNat) := ⟨_, rfl⟩
  rw [← hMe] at hB
  clear hMe
  obtain ⟨hM, hm4, hmm⟩ := hB
  obtain ⟨ns, hns⟩ : ∃ ns : Nat, sh = (ns : Int) := ⟨sh.toNat, by omega⟩
  subst hns
  have hn1 : 1 ≤ ns := by omega
  have hn2 : ns ≤ 64 := by omega
  clear hsh1 hsh2
  obtain ⟨hd, ehd1, ehd2, hhd⟩ := hd_of (X := X) hn1
  have hns0 : ¬ ((ns : Int) = 0) := by omega
  have hM4 := hM.most
  have hMp := hM.pos
  have hl3 := lv_le hM4
  have ht3 := tv_le hM4
  have hlv : lv M ≤ 128 ∧ 1 ≤ lv M ∧ tv M ≤ 2 ∧ 1 ≤ tv M := by unfold tv tq lv; omega
  have hm6 : m ≤ 65536 ∧ lv M + tv M < m := by omega
  obtain ⟨hm6, hmt⟩ := hm6
  replace hmm := Lib.hid hmm
  have hm0 : 0 < m := by omega
  obtain ⟨bb, oo, hBe, hbb, _⟩ := hU.get hm0
  subst hBe
  have hr64 := gt_lt hU.fit (lv M + tv M)
  have TS := fun w h s k t (hU : US w (some ⟨bb, oo, none⟩) m d ys) hA hE => Lib.hid (sstep_run (w := w) (h := h) (s := s) (k := k) (tt := t) (wo := wo) (qu := qu) (tr := tr) (A := A) (n := n) (c := c) (hd := hd) ha hM hn1 hn2 hhd hmt hU hA hE)
  obtain ⟨MS, hMS⟩ : ∃ MS : Nat, MS = ns * (2 + tv M) := ⟨_, rfl⟩
  have hMS2 : 2 ≤ MS ∧ MS ≤ 256 := by rw [hMS]; have q1 : 1 * (2 + tv M) ≤ ns * (2 + tv M) := Nat.mul_le_mul_right _ hn1; have q2 : ns * (2 + tv M) ≤ 64 * 4 := Nat.mul_le_mul hn2 (by omega); omega
  replace hMS := Lib.hid hMS
  have H_0 := L.at_ 0 0 rfl (v := .int .u32 (a : Int)) rfl
  have H_1 := L.at_ 0 1 rfl (v := .int .i64 p) rfl
  have H_z := L.lt 0 rfl
  go_wp2_with fail
  refine (rmany_yes hM).mono ?_
  rintro e w4 ⟨rfl, K'⟩
  clear H_0 H_1 H_z
  replace L := L.over K'
  have H_3 := L.at_ 0 3 rfl (v := .int .i64 (ns : Int)) rfl
  have H_z := L.lt 0 rfl
  go_upto_region 5 with (refine wpList_store_row rfl 41 (.tmp 8) (.tmp 34) rfl _ _ rfl (show _ = Value.agg (opv ⟨none, 0, 0, none, 0, 0, none, 0, 0, none, 0, 0⟩ ⟨0, 0, 0, 0, false, 1, (hd : Int), 0, 0, 0, 0, false, 0, 0, 0, 0⟩) from rfl) _ _ (Bk.new _ _ _) op_sz rfl (opv_one _ _) ?_)
  clear H_3 H_z
  try rw [World.setRow_alloc_new]
  replace L := (L).alloc (opv ⟨none, 0, 0, none, 0, 0, none, 0, 0, none, 0, 0⟩ ⟨0, 0, 0, 0, false, 1, (hd : Int), 0, 0, 0, 0, false, 0, 0, 0, 0⟩) 41
  try simp only [World.size_alloc] at L
  try dsimp only [nput] at L
  generalize (w4).alloc (.cells (opv ⟨none, 0, 0, none, 0, 0, none, 0, 0, none, 0, 0⟩ ⟨0, 0, 0, 0, false, 1, (hd : Int), 0, 0, 0, 0, false, 0, 0, 0, 0⟩) 41) = w5 at L ⊢
  generalize w4.heap.size = gO at L ⊢
  go_wp2
  clear ehd1 ehd2 hns0
  replace L := L.is 0 (opv hd0 ⟨0, 0, 0, 0, false, 1, (hd : Int), 0, 0, 0, 0, false, 0, 0, 0, 0⟩) rfl
  try dsimp only [nput] at L
  go_loopw [9] (fun sv wr => ∃ (u : Nat) (s : Sc) (h : Hd), u < MS ∧ sv = .int .i64 (u : Nat) ∧ SkI M ns hd ys s (MS - u) ∧ EmpL h ∧ Loc w wr [(gO, 41, opv h s), (gH, 27, #[.int .u32 (a : Int), .int .i64 p, .slice A n c, .int .i64 (ns : Int), .int .i64 wo, .int .i64 qu, .int .i64 tr])] []) (fun sv _ => MS - (intOf sv).toNat)
  case atStart => exact ⟨0, ⟨0, 0, 0, 0, false, 1, (hd : Int), 0, 0, 0, 0, false, 0, 0, 0, 0⟩, hd0, by omega, rfl, .inl ⟨0, 0, sk_start hn1, by unfold mu; rw [hMS.out]; exact Nat.le_refl _⟩, EmpL.hd0, L⟩
  case round =>
    clear L
    obtain ⟨u, s, h, hu, rfl, hSk, hE, L⟩ := hrel
    have hu2 : (u : Int) < 2304 := by omega
    have hu3 : u < 2304 := by omega
    rcases hSk with ⟨k, t, hA, hmu⟩ | ⟨k, i0, hS⟩ | hS
    · have hp1 : (s.phase == 1) = true := by rw [hA.ph]; rfl
      have hst := ski_step hn1 hr64 hA hmu
      have hmp := mu_pos hA.hk hA.ht
      obtain ⟨s2, hs2⟩ : ∃ s2, s2 = skS (ns : Int) M ys (sa M ns hd k) (sb M ns hd k) s := ⟨_, rfl⟩
      have TK := fun w (U : US w (some ⟨bb, oo, none⟩) m d ys) => TS w h s k t U hA hE
      rw [← hs2] at hst
      simp only [← hs2] at TK
      replace hst := Lib.hid hst
      clear hs2
      have O_8 := L.at_ 0 8 rfl (v := .int .i64 s.phase) rfl
      have O_z := L.lt 0 rfl
      go_wp2_with (first | (refine wpList_load_row rfl 27 (.tmp 3) rfl gH rfl _ _ (0, 0) _ (L.bk_ 1 rfl) Try.underlying27 rfl cf_sz ?_) | (refine wpList_load_row rfl 41 (.tmp 8) rfl gO rfl _ _ (0, 0) _ (L.bk_ 0 rfl) Try.underlying41 rfl op_sz ?_))
      refine ((TK _ (hU.below L.K)).out).mono ?_
      rintro e w6 ⟨h2, rfl, hE2, K'⟩
      clear O_8 O_z
      replace L := L.over K'
      go_upto_region 7 with (refine wpList_store_row rfl 41 (.tmp 8) (.tmp 47) rfl gO _ rfl rfl _ _ (L.bk_ 0 rfl) op_sz rfl (opv_one _ _) ?_)
      replace L := (L.row 0 rfl (opv h2 s2))
      try dsimp only [nput] at L
      generalize (w6).setRow gO (opv h2 s2) = w7 at L ⊢
      go_wp2
      go_roundw
      case rel => exact ⟨u + 1, s2, h2, by omega, by go_num, by have := hst.out.2; rwa [show MS - u - 1 = MS - (u + 1) by omega] at this, hE2, L⟩
      case measure => simp [intOf]; omega
    · clear TS
      have hp1 : (s.phase == 1) = false := by rw [hS.ph]; rfl
      have hp2 : (s.phase != 2) = false := by rw [hS.ph]; rfl
      have hlf : s.leaf = (i0 : Int) := hS.lf
      have hsd := hS.sd
      have hso := hS.so
      have hkn := hS.hk
      have hi0 : i0 < lv M := Nat.lt_of_lt_of_le hS.hi (sab hn1).2
      have hpas := Lib.hid hS.pas
      have hfst := Lib.hid hS.fst
      clear hS
      have TLv := fun w => Lib.hid (rleaves_any M hM4 w)
      have TTo := fun i (hi : i ≤ 65536) w => Lib.hid (rtop_any M i hM4 hi w)
      have TRo := fun i (hi : i ≤ 65536) w => Lib.hid (rroot_any M i hM4 hi w)
      have O_8 := L.at_ 0 8 rfl (v := .int .i64 s.phase) rfl
      have O_z := L.lt 0 rfl
      go_wp2_with fail
      clear O_8 O_z
      obtain ⟨LV, hLV⟩ : ∃ LV, LV = lv M := ⟨_, rfl⟩
      rw [← hLV] at TLv
      replace hLV := Lib.hid hLV
      go_loopw [10] (fun iv wr => ∃ i : Nat, i ≤ LV ∧ iv = .int .i64 (i : Nat) ∧ Loc w wr [(gO, 41, opv h s), (gH, 27, #[.int .u32 (a : Int), .int .i64 p, .slice A n c, .int .i64 (ns : Int), .int .i64 wo, .int .i64 qu, .int .i64 tr])] []) (fun iv _ => LV - (intOf iv).toNat)
      case atStart => exact ⟨0, Nat.zero_le _, rfl, L⟩
      case round =>
        clear L
        obtain ⟨i, hi, rfl, L⟩ := hrel
        by_cases hlt : i < LV
        · have hi65 : i ≤ 65536 := by have := hLV.out; omega
          have hiL : i < lv M := by have := hLV.out; omega
          have TT1 := TTo i hi65
          have TR1 := TRo i hi65
          clear TTo TRo
          have hct : lv M + i / 64 < m ∧ lv M + tv M < m := by unfold tv tq at hmt ⊢; omega
          obtain ⟨si, j, g1, g2, g3, g4, g5, g6, g7, g8⟩ := sk_cover (M := M) hn1 hhd hiL
          have hOf := fun w => Lib.hid (rof_any M ns i si hM4 hn1 hn2 g1 (by rw [← g7]; exact g5) (by rw [← g8]; exact g6) w)
          have hRe := fun w => Lib.hid (rest_any (si + ns - hd) ns hn1 hn2 (by omega) w)
          rw [g4] at hRe
          have hA1 : j < k → hf M ys i = true := fun h => hpas.out j h i g5 g6
          have hA2 : j = k → i < i0 → hf M ys i = true := fun h h2 => by subst h; exact hfst.out i g5 h2
          replace hA1 := Lib.hid hA1
          replace hA2 := Lib.hid hA2
          clear g3 g4 g5 g6 g7 g8
          obtain ⟨s1, hs1⟩ : ∃ s1 : Nat, (si : Int) + (ns : Int) = s1 := ⟨si + ns, by omega⟩
          obtain ⟨s3, hs3⟩ : ∃ s3 : Nat, (s1 : Int) - (hd : Int) = s3 := ⟨s1 - hd, by omega⟩
          have hs4 : si + ns - hd = s3 := by omega
          rw [hs4] at hRe
          clear hs4
          have hb9 : s1 ≤ 128 ∧ s3 ≤ 128 := by omega
          have eW1 : IntKind.i64.wrap (s1 : Int) = (s1 : Int) := IntWalk.i64_in _ (by omega)
          have eW2 : IntKind.i64.wrap (s3 : Int) = (s3 : Int) := IntWalk.i64_in _ (by omega)
          clear hb9
          obtain ⟨wT, hwT⟩ : ∃ x, gt ys (lv M + i / 64) = x := ⟨_, rfl⟩
          obtain ⟨wR, hwR⟩ : ∃ x, gt ys (lv M + tv M) = x := ⟨_, rfl⟩
          have hwT64 := gt_lt hU.fit (lv M + i / 64)
          have hwR64 := gt_lt hU.fit (lv M + tv M)
          rw [hwT] at hwT64
          rw [hwR] at hwR64
          have hfi : hf M ys i = (wT.testBit (i % 64) || wR.testBit (i / 64)) := by unfold hf; rw [hwT, hwR]
          have XT := hU.here hct.1
          have XR := hU.here hct.2
          rw [hwT] at XT
          rw [hwR] at XR
          have hrb64 : i / 64 < 64 := by omega
          have htb64 : i % 64 < 64 := by omega
          clear hwT hwR
          generalize lv M + i / 64 = cl at *
          generalize lv M + tv M = rc at *
          generalize i / 64 = rb at *
          generalize i % 64 = tb at *
          obtain ⟨hc1, hc2⟩ := hct
          have hc1i : (cl : Int) < (m : Int) := by omega
          have hc2i : (rc : Int) < (m : Int) := by omega
          have hlt2 : (i : Int) < (LV : Int) := by omega
          have THt := fun w => Lib.hid (rhas_any wT tb hwT64 htb64 w)
          have THr := fun w => Lib.hid (rhas_any wR rb hwR64 hrb64 w)
          cases hbT : wT.testBit tb
          rotate_left
          · by_cases q1 : j < k
            · simp only [hbT] at THt
              clear hfi hbT
              replace hkn := Lib.hid hkn
              clear hA1 hA2
              have j1 : decide (j < k) = true := by simp; omega
              replace q1 := Lib.hid q1
              go_wp2_with fail
              refine ((TLv _).out).mono ?_
              rintro e w' ⟨rfl, rfl⟩
              go_wp2_with fail
              refine ((TT1 _).out).mono ?_
              rintro e w' ⟨rfl, rfl⟩
              go_wp2_with fail
              refine ((TR1 _).out).mono ?_
              rintro e w' ⟨rfl, rfl⟩
              have X1 := (L.K.cell (p := ⟨bb, oo + cl, none⟩) hbb).trans XT
              go_wp2_with fail
              refine ((THt _).out).mono ?_
              rintro e w' ⟨rfl, rfl⟩
              clear X1
              go_upto_region 17 with (fail)
              replace L := L.drew
              refine wp_region_held_drew (S := fun w' => Loc w w' [(gO, 41, opv h s), (gH, 27, #[.int .u32 (a : Int), .int .i64 p, .slice A n c, .int .i64 (ns : Int), .int .i64 wo, .int .i64 qu, .int .i64 tr])] []) (by kernel_rfl) L (fun hHeld => ?_)
              generalize wr.drew = v6 at hHeld L ⊢
              refine wpAnyH_take (i := 0) (oi := ⟨some 86, _, _, _, _, _⟩) (v := .int .i64 (M : Int)) rfl (by kernel_rfl) (by kernel_rfl) (by kernel_rfl) (fun _ _ _ h => h) (Or.inl ⟨by rfl, ?_⟩) hHeld ?_
              · intro ww hS
                try dsimp only at hS
                go_simp
                try with_reducible rfl
                try omega
              try simp only [Act.put, List.setIfInBounds_toArray, List.set_cons_zero, List.set_cons_succ]
              refine wpAnyH_take (i := 1) (oi := ⟨some 87, _, _, _, _, _⟩) (v := .pointer (some ⟨gH, 3, none⟩)) rfl (by kernel_rfl) (by kernel_rfl) (by kernel_rfl) (fun _ _ _ h => h) (Or.inl ⟨by rfl, ?_⟩) hHeld ?_
              · intro ww hS
                try dsimp only at hS
                go_simp
                try with_reducible rfl
                try omega
              try simp only [Act.put, List.setIfInBounds_toArray, List.set_cons_zero, List.set_cons_succ]
              refine wpAnyH_take (i := 2) (oi := ⟨some 88, _, _, _, _, _⟩) (v := .int .i64 (ns : Int)) rfl (by kernel_rfl) (by kernel_rfl) (by kernel_rfl) (fun _ _ _ h => h) (Or.inl ⟨by rfl, ?_⟩) hHeld ?_
              · intro ww hS
                try dsimp only at hS
                have H_3 := (hS).at_ 1 3 rfl (v := .int .i64 (ns : Int)) rfl
                have H_z := (hS).lt 1 rfl
                go_simp
                try with_reducible rfl
                try omega
              try simp only [Act.put, List.setIfInBounds_toArray, List.set_cons_zero, List.set_cons_succ]
              refine wpAnyH_take (i := 3) (oi := ⟨some 89, _, _, _, _, _⟩) (v := .int .i64 (i : Int)) rfl (by kernel_rfl) (by kernel_rfl) (by kernel_rfl) (fun _ _ _ h => h) (Or.inl ⟨by rfl, ?_⟩) hHeld ?_
              · intro ww hS
                try dsimp only at hS
                go_simp
                try with_reducible rfl
                try omega
              try simp only [Act.put, List.setIfInBounds_toArray, List.set_cons_zero, List.set_cons_succ]
              refine wpAnyH_take (i := 5) (oi := ⟨some 91, _, _, _, _, _⟩) (v := .pointer (some ⟨gH, 3, none⟩)) rfl (by kernel_rfl) (by kernel_rfl) (by kernel_rfl) (fun _ _ _ h => h) (Or.inl ⟨by rfl, ?_⟩) hHeld ?_
              · intro ww hS
                try dsimp only at hS
                go_simp
                try with_reducible rfl
                try omega
              try simp only [Act.put, List.setIfInBounds_toArray, List.set_cons_zero, List.set_cons_succ]
              refine wpAnyH_take (i := 6) (oi := ⟨some 92, _, _, _, _, _⟩) (v := .int .i64 (ns : Int)) rfl (by kernel_rfl) (by kernel_rfl) (by kernel_rfl) (fun _ _ _ h => h) (Or.inl ⟨by rfl, ?_⟩) hHeld ?_
              · intro ww hS
                try dsimp only at hS
                have H_3 := (hS).at_ 1 3 rfl (v := .int .i64 (ns : Int)) rfl
                have H_z := (hS).lt 1 rfl
                go_simp
                try with_reducible rfl
                try omega
              try simp only [Act.put, List.setIfInBounds_toArray, List.set_cons_zero, List.set_cons_succ]
              refine wpAnyH_take (i := 8) (oi := ⟨some 94, _, _, _, _, _⟩) (v := .pointer (some ⟨gO, 9, none⟩)) rfl (by kernel_rfl) (by kernel_rfl) (by kernel_rfl) (fun _ _ _ h => h) (Or.inl ⟨by rfl, ?_⟩) hHeld ?_
              · intro ww hS
                try dsimp only at hS
                go_simp
                try with_reducible rfl
                try omega
              try simp only [Act.put, List.setIfInBounds_toArray, List.set_cons_zero, List.set_cons_succ]
              refine wpAnyH_take (i := 9) (oi := ⟨some 95, _, _, _, _, _⟩) (v := .int .i64 (hd : Int)) rfl (by kernel_rfl) (by kernel_rfl) (by kernel_rfl) (fun _ _ _ h => h) (Or.inl ⟨by rfl, ?_⟩) hHeld ?_
              · intro ww hS
                try dsimp only at hS
                have O_9 := ((hS)).at_ 0 9 rfl (v := .int .i64 (hd : Int)) (by show some (Value.int .i64 s.shard) = _; rw [hsd])
                have O_z9 := ((hS)).lt 0 rfl
                go_simp
                try with_reducible rfl
                try omega
              try simp only [Act.put, List.setIfInBounds_toArray, List.set_cons_zero, List.set_cons_succ]
              refine wpAnyH_take (i := 11) (oi := ⟨some 97, _, _, _, _, _⟩) (v := .pointer (some ⟨gH, 3, none⟩)) rfl (by kernel_rfl) (by kernel_rfl) (by kernel_rfl) (fun _ _ _ h => h) (Or.inl ⟨by rfl, ?_⟩) hHeld ?_
              · intro ww hS
                try dsimp only at hS
                go_simp
                try with_reducible rfl
                try omega
              try simp only [Act.put, List.setIfInBounds_toArray, List.set_cons_zero, List.set_cons_succ]
              refine wpAnyH_take (i := 12) (oi := ⟨some 98, _, _, _, _, _⟩) (v := .int .i64 (ns : Int)) rfl (by kernel_rfl) (by kernel_rfl) (by kernel_rfl) (fun _ _ _ h => h) (Or.inl ⟨by rfl, ?_⟩) hHeld ?_
              · intro ww hS
                try dsimp only at hS
                have H_3 := (hS).at_ 1 3 rfl (v := .int .i64 (ns : Int)) rfl
                have H_z := (hS).lt 1 rfl
                go_simp
                try with_reducible rfl
                try omega
              try simp only [Act.put, List.setIfInBounds_toArray, List.set_cons_zero, List.set_cons_succ]
              refine wpAnyH_ready (rs := [4]) (by kernel_rfl) (by simp) ?_
              refine AllReadyH.cons (o := ⟨some 90, _, _, _, _, _⟩) rfl (fun K0 hK => ?_) AllReadyH.nil
              go_simp
              refine ((hOf _).out).mono ?_
              rintro e w7 ⟨rfl, K'⟩
              replace L := L.over K'
              refine hK.out _ _ L (fun hHeld' => ?_)
              clear hHeld hK K0
              have hHeld := hHeld'
              clear hHeld'
              clear K'
              try simp only [Act.put, List.setIfInBounds_toArray, List.set_cons_zero, List.set_cons_succ]
              refine wpAnyH_take (i := 7) (oi := ⟨some 93, _, _, _, _, _⟩) (v := .int .i64 (s1 : Int)) rfl (by kernel_rfl) (by kernel_rfl) (by kernel_rfl) (fun _ _ _ h => h) (Or.inl ⟨by rfl, ?_⟩) hHeld ?_
              · intro ww hS
                try dsimp only at hS
                go_simp
                try with_reducible rfl
                try omega
              try simp only [Act.put, List.setIfInBounds_toArray, List.set_cons_zero, List.set_cons_succ]
              refine wpAnyH_take (i := 10) (oi := ⟨some 96, _, _, _, _, _⟩) (v := .int .i64 (s3 : Int)) rfl (by kernel_rfl) (by kernel_rfl) (by kernel_rfl) (fun _ _ _ h => h) (Or.inl ⟨by rfl, ?_⟩) hHeld ?_
              · intro ww hS
                try dsimp only at hS
                go_simp
                try with_reducible rfl
                try omega
              try simp only [Act.put, List.setIfInBounds_toArray, List.set_cons_zero, List.set_cons_succ]
              refine wpAnyH_ready (rs := [13]) (by kernel_rfl) (by simp) ?_
              refine AllReadyH.cons (o := ⟨some 99, _, _, _, _, _⟩) rfl (fun K0 hK => ?_) AllReadyH.nil
              go_simp
              refine ((hRe _).out).mono ?_
              rintro e w' ⟨rfl, rfl⟩
              refine hK.out _ _ L (fun hHeld' => ?_)
              clear hHeld hK K0
              have hHeld := hHeld'
              clear hHeld'
              try simp only [Act.put, List.setIfInBounds_toArray, List.set_cons_zero, List.set_cons_succ]
              refine wpAnyH_take (i := 14) (oi := ⟨some 16, _, _, _, _, _⟩) (v := .int .i64 (j : Int)) rfl (by kernel_rfl) (by kernel_rfl) (by kernel_rfl) (fun _ _ _ h => h) (Or.inl ⟨by rfl, ?_⟩) hHeld ?_
              · intro ww hS
                try dsimp only at hS
                go_simp
                try with_reducible rfl
                try omega
              try simp only [Act.put, List.setIfInBounds_toArray, List.set_cons_zero, List.set_cons_succ]
              refine wpAnyH_done (by kernel_rfl) ?_ _
              clear hHeld
              have O_10 := (L).at_ 0 10 rfl (v := .int .i64 (k : Int)) (by show some (Value.int .i64 s.sought) = _; rw [hso])
              have O_z10 := (L).lt 0 rfl
              go_wp2_with fail
              clear O_10 O_z10
              go_roundw
              case rel => exact ⟨i + 1, by omega, by go_num, L⟩
              case measure => simp [intOf]; omega
            by_cases q2 : j = k
            rotate_left
            · simp only [hbT] at THt
              clear hfi hbT
              replace hkn := Lib.hid hkn
              clear hA1 hA2
              have j1 : decide (j < k) = false := by simp; omega
              have j2 : ((j : Int) == (k : Int)) = false := by simp; omega
              replace q1 := Lib.hid q1
              replace q2 := Lib.hid q2
              go_wp2_with fail
              refine ((TLv _).out).mono ?_
              rintro e w' ⟨rfl, rfl⟩
              go_wp2_with fail
              refine ((TT1 _).out).mono ?_
              rintro e w' ⟨rfl, rfl⟩
              go_wp2_with fail
              refine ((TR1 _).out).mono ?_
              rintro e w' ⟨rfl, rfl⟩
              have X1 := (L.K.cell (p := ⟨bb, oo + cl, none⟩) hbb).trans XT
              go_wp2_with fail
              refine ((THt _).out).mono ?_
              rintro e w' ⟨rfl, rfl⟩
              clear X1
              go_upto_region 17 with (fail)
              replace L := L.drew
              refine wp_region_held_drew (S := fun w' => Loc w w' [(gO, 41, opv h s), (gH, 27, #[.int .u32 (a : Int), .int .i64 p, .slice A n c, .int .i64 (ns : Int), .int .i64 wo, .int .i64 qu, .int .i64 tr])] []) (by kernel_rfl) L (fun hHeld => ?_)
              generalize wr.drew = v6 at hHeld L ⊢
              refine wpAnyH_take (i := 0) (oi := ⟨some 86, _, _, _, _, _⟩) (v := .int .i64 (M : Int)) rfl (by kernel_rfl) (by kernel_rfl) (by kernel_rfl) (fun _ _ _ h => h) (Or.inl ⟨by rfl, ?_⟩) hHeld ?_
              · intro ww hS
                try dsimp only at hS
                go_simp
                try with_reducible rfl
                try omega
              try simp only [Act.put, List.setIfInBounds_toArray, List.set_cons_zero, List.set_cons_succ]
              refine wpAnyH_take (i := 1) (oi := ⟨some 87, _, _, _, _, _⟩) (v := .pointer (some ⟨gH, 3, none⟩)) rfl (by kernel_rfl) (by kernel_rfl) (by kernel_rfl) (fun _ _ _ h => h) (Or.inl ⟨by rfl, ?_⟩) hHeld ?_
              · intro ww hS
                try dsimp only at hS
                go_simp
                try with_reducible rfl
                try omega
              try simp only [Act.put, List.setIfInBounds_toArray, List.set_cons_zero, List.set_cons_succ]
              refine wpAnyH_take (i := 2) (oi := ⟨some 88, _, _, _, _, _⟩) (v := .int .i64 (ns : Int)) rfl (by kernel_rfl) (by kernel_rfl) (by kernel_rfl) (fun _ _ _ h => h) (Or.inl ⟨by rfl, ?_⟩) hHeld ?_
              · intro ww hS
                try dsimp only at hS
                have H_3 := (hS).at_ 1 3 rfl (v := .int .i64 (ns : Int)) rfl
                have H_z := (hS).lt 1 rfl
                go_simp
                try with_reducible rfl
                try omega
              try simp only [Act.put, List.setIfInBounds_toArray, List.set_cons_zero, List.set_cons_succ]
              refine wpAnyH_take (i := 3) (oi := ⟨some 89, _, _, _, _, _⟩) (v := .int .i64 (i : Int)) rfl (by kernel_rfl) (by kernel_rfl) (by kernel_rfl) (fun _ _ _ h => h) (Or.inl ⟨by rfl, ?_⟩) hHeld ?_
              · intro ww hS
                try dsimp only at hS
                go_simp
                try with_reducible rfl
                try omega
              try simp only [Act.put, List.setIfInBounds_toArray, List.set_cons_zero, List.set_cons_succ]
              refine wpAnyH_take (i := 5) (oi := ⟨some 91, _, _, _, _, _⟩) (v := .pointer (some ⟨gH, 3, none⟩)) rfl (by kernel_rfl) (by kernel_rfl) (by kernel_rfl) (fun _ _ _ h => h) (Or.inl ⟨by rfl, ?_⟩) hHeld ?_
              · intro ww hS
                try dsimp only at hS
                go_simp
                try with_reducible rfl
                try omega
              try simp only [Act.put, List.setIfInBounds_toArray, List.set_cons_zero, List.set_cons_succ]
              refine wpAnyH_take (i := 6) (oi := ⟨some 92, _, _, _, _, _⟩) (v := .int .i64 (ns : Int)) rfl (by kernel_rfl) (by kernel_rfl) (by kernel_rfl) (fun _ _ _ h => h) (Or.inl ⟨by rfl, ?_⟩) hHeld ?_
              · intro ww hS
                try dsimp only at hS
                have H_3 := (hS).at_ 1 3 rfl (v := .int .i64 (ns : Int)) rfl
                have H_z := (hS).lt 1 rfl
                go_simp
                try with_reducible rfl
                try omega
              try simp only [Act.put, List.setIfInBounds_toArray, List.set_cons_zero, List.set_cons_succ]
              refine wpAnyH_take (i := 8) (oi := ⟨some 94, _, _, _, _, _⟩) (v := .pointer (some ⟨gO, 9, none⟩)) rfl (by kernel_rfl) (by kernel_rfl) (by kernel_rfl) (fun _ _ _ h => h) (Or.inl ⟨by rfl, ?_⟩) hHeld ?_
              · intro ww hS
                try dsimp only at hS
                go_simp
                try with_reducible rfl
                try omega
              try simp only [Act.put, List.setIfInBounds_toArray, List.set_cons_zero, List.set_cons_succ]
              refine wpAnyH_take (i := 9) (oi := ⟨some 95, _, _, _, _, _⟩) (v := .int .i64 (hd : Int)) rfl (by kernel_rfl) (by kernel_rfl) (by kernel_rfl) (fun _ _ _ h => h) (Or.inl ⟨by rfl, ?_⟩) hHeld ?_
              · intro ww hS
                try dsimp only at hS
                have O_9 := ((hS)).at_ 0 9 rfl (v := .int .i64 (hd : Int)) (by show some (Value.int .i64 s.shard) = _; rw [hsd])
                have O_z9 := ((hS)).lt 0 rfl
                go_simp
                try with_reducible rfl
                try omega
              try simp only [Act.put, List.setIfInBounds_toArray, List.set_cons_zero, List.set_cons_succ]
              refine wpAnyH_take (i := 11) (oi := ⟨some 97, _, _, _, _, _⟩) (v := .pointer (some ⟨gH, 3, none⟩)) rfl (by kernel_rfl) (by kernel_rfl) (by kernel_rfl) (fun _ _ _ h => h) (Or.inl ⟨by rfl, ?_⟩) hHeld ?_
              · intro ww hS
                try dsimp only at hS
                go_simp
                try with_reducible rfl
                try omega
              try simp only [Act.put, List.setIfInBounds_toArray, List.set_cons_zero, List.set_cons_succ]
              refine wpAnyH_take (i := 12) (oi := ⟨some 98, _, _, _, _, _⟩) (v := .int .i64 (ns : Int)) rfl (by kernel_rfl) (by kernel_rfl) (by kernel_rfl) (fun _ _ _ h => h) (Or.inl ⟨by rfl, ?_⟩) hHeld ?_
              · intro ww hS
                try dsimp only at hS
                have H_3 := (hS).at_ 1 3 rfl (v := .int .i64 (ns : Int)) rfl
                have H_z := (hS).lt 1 rfl
                go_simp
                try with_reducible rfl
                try omega
              try simp only [Act.put, List.setIfInBounds_toArray, List.set_cons_zero, List.set_cons_succ]
              refine wpAnyH_ready (rs := [4]) (by kernel_rfl) (by simp) ?_
              refine AllReadyH.cons (o := ⟨some 90, _, _, _, _, _⟩) rfl (fun K0 hK => ?_) AllReadyH.nil
              go_simp
              refine ((hOf _).out).mono ?_
              rintro e w7 ⟨rfl, K'⟩
              replace L := L.over K'
              refine hK.out _ _ L (fun hHeld' => ?_)
              clear hHeld hK K0
              have hHeld := hHeld'
              clear hHeld'
              clear K'
              try simp only [Act.put, List.setIfInBounds_toArray, List.set_cons_zero, List.set_cons_succ]
              refine wpAnyH_take (i := 7) (oi := ⟨some 93, _, _, _, _, _⟩) (v := .int .i64 (s1 : Int)) rfl (by kernel_rfl) (by kernel_rfl) (by kernel_rfl) (fun _ _ _ h => h) (Or.inl ⟨by rfl, ?_⟩) hHeld ?_
              · intro ww hS
                try dsimp only at hS
                go_simp
                try with_reducible rfl
                try omega
              try simp only [Act.put, List.setIfInBounds_toArray, List.set_cons_zero, List.set_cons_succ]
              refine wpAnyH_take (i := 10) (oi := ⟨some 96, _, _, _, _, _⟩) (v := .int .i64 (s3 : Int)) rfl (by kernel_rfl) (by kernel_rfl) (by kernel_rfl) (fun _ _ _ h => h) (Or.inl ⟨by rfl, ?_⟩) hHeld ?_
              · intro ww hS
                try dsimp only at hS
                go_simp
                try with_reducible rfl
                try omega
              try simp only [Act.put, List.setIfInBounds_toArray, List.set_cons_zero, List.set_cons_succ]
              refine wpAnyH_ready (rs := [13]) (by kernel_rfl) (by simp) ?_
              refine AllReadyH.cons (o := ⟨some 99, _, _, _, _, _⟩) rfl (fun K0 hK => ?_) AllReadyH.nil
              go_simp
              refine ((hRe _).out).mono ?_
              rintro e w' ⟨rfl, rfl⟩
              refine hK.out _ _ L (fun hHeld' => ?_)
              clear hHeld hK K0
              have hHeld := hHeld'
              clear hHeld'
              try simp only [Act.put, List.setIfInBounds_toArray, List.set_cons_zero, List.set_cons_succ]
              refine wpAnyH_take (i := 14) (oi := ⟨some 16, _, _, _, _, _⟩) (v := .int .i64 (j : Int)) rfl (by kernel_rfl) (by kernel_rfl) (by kernel_rfl) (fun _ _ _ h => h) (Or.inl ⟨by rfl, ?_⟩) hHeld ?_
              · intro ww hS
                try dsimp only at hS
                go_simp
                try with_reducible rfl
                try omega
              try simp only [Act.put, List.setIfInBounds_toArray, List.set_cons_zero, List.set_cons_succ]
              refine wpAnyH_done (by kernel_rfl) ?_ _
              clear hHeld
              have O_10 := (L).at_ 0 10 rfl (v := .int .i64 (k : Int)) (by show some (Value.int .i64 s.sought) = _; rw [hso])
              have O_z10 := (L).lt 0 rfl
              go_wp2_with fail
              clear O_10 O_z10
              go_roundw
              case rel => exact ⟨i + 1, by omega, by go_num, L⟩
              case measure => simp [intOf]; omega
            by_cases q3 : i < i0
            · simp only [hbT] at THt
              clear hfi hbT
              replace hkn := Lib.hid hkn
              clear hA1 hA2
              have j1 : decide (j < k) = false := by simp; omega
              have j2 : ((j : Int) == (k : Int)) = true := by simp; omega
              have j3 : decide (i < i0) = true := by simp; omega
              replace q1 := Lib.hid q1
              replace q2 := Lib.hid q2
              replace q3 := Lib.hid q3
              go_wp2_with fail
              refine ((TLv _).out).mono ?_
              rintro e w' ⟨rfl, rfl⟩
              go_wp2_with fail
              refine ((TT1 _).out).mono ?_
              rintro e w' ⟨rfl, rfl⟩
              go_wp2_with fail
              refine ((TR1 _).out).mono ?_
              rintro e w' ⟨rfl, rfl⟩
              have X1 := (L.K.cell (p := ⟨bb, oo + cl, none⟩) hbb).trans XT
              go_wp2_with fail
              refine ((THt _).out).mono ?_
              rintro e w' ⟨rfl, rfl⟩
              clear X1
              go_upto_region 17 with (fail)
              replace L := L.drew
              refine wp_region_held_drew (S := fun w' => Loc w w' [(gO, 41, opv h s), (gH, 27, #[.int .u32 (a : Int), .int .i64 p, .slice A n c, .int .i64 (ns : Int), .int .i64 wo, .int .i64 qu, .int .i64 tr])] []) (by kernel_rfl) L (fun hHeld => ?_)
              generalize wr.drew = v6 at hHeld L ⊢
              refine wpAnyH_take (i := 0) (oi := ⟨some 86, _, _, _, _, _⟩) (v := .int .i64 (M : Int)) rfl (by kernel_rfl) (by kernel_rfl) (by kernel_rfl) (fun _ _ _ h => h) (Or.inl ⟨by rfl, ?_⟩) hHeld ?_
              · intro ww hS
                try dsimp only at hS
                go_simp
                try with_reducible rfl
                try omega
              try simp only [Act.put, List.setIfInBounds_toArray, List.set_cons_zero, List.set_cons_succ]
              refine wpAnyH_take (i := 1) (oi := ⟨some 87, _, _, _, _, _⟩) (v := .pointer (some ⟨gH, 3, none⟩)) rfl (by kernel_rfl) (by kernel_rfl) (by kernel_rfl) (fun _ _ _ h => h) (Or.inl ⟨by rfl, ?_⟩) hHeld ?_
              · intro ww hS
                try dsimp only at hS
                go_simp
                try with_reducible rfl
                try omega
              try simp only [Act.put, List.setIfInBounds_toArray, List.set_cons_zero, List.set_cons_succ]
              refine wpAnyH_take (i := 2) (oi := ⟨some 88, _, _, _, _, _⟩) (v := .int .i64 (ns : Int)) rfl (by kernel_rfl) (by kernel_rfl) (by kernel_rfl) (fun _ _ _ h => h) (Or.inl ⟨by rfl, ?_⟩) hHeld ?_
              · intro ww hS
                try dsimp only at hS
                have H_3 := (hS).at_ 1 3 rfl (v := .int .i64 (ns : Int)) rfl
                have H_z := (hS).lt 1 rfl
                go_simp
                try with_reducible rfl
                try omega
              try simp only [Act.put, List.setIfInBounds_toArray, List.set_cons_zero, List.set_cons_succ]
              refine wpAnyH_take (i := 3) (oi := ⟨some 89, _, _, _, _, _⟩) (v := .int .i64 (i : Int)) rfl (by kernel_rfl) (by kernel_rfl) (by kernel_rfl) (fun _ _ _ h => h) (Or.inl ⟨by rfl, ?_⟩) hHeld ?_
              · intro ww hS
                try dsimp only at hS
                go_simp
                try with_reducible rfl
                try omega
              try simp only [Act.put, List.setIfInBounds_toArray, List.set_cons_zero, List.set_cons_succ]
              refine wpAnyH_take (i := 5) (oi := ⟨some 91, _, _, _, _, _⟩) (v := .pointer (some ⟨gH, 3, none⟩)) rfl (by kernel_rfl) (by kernel_rfl) (by kernel_rfl) (fun _ _ _ h => h) (Or.inl ⟨by rfl, ?_⟩) hHeld ?_
              · intro ww hS
                try dsimp only at hS
                go_simp
                try with_reducible rfl
                try omega
              try simp only [Act.put, List.setIfInBounds_toArray, List.set_cons_zero, List.set_cons_succ]
              refine wpAnyH_take (i := 6) (oi := ⟨some 92, _, _, _, _, _⟩) (v := .int .i64 (ns : Int)) rfl (by kernel_rfl) (by kernel_rfl) (by kernel_rfl) (fun _ _ _ h => h) (Or.inl ⟨by rfl, ?_⟩) hHeld ?_
              · intro ww hS
                try dsimp only at hS
                have H_3 := (hS).at_ 1 3 rfl (v := .int .i64 (ns : Int)) rfl
                have H_z := (hS).lt 1 rfl
                go_simp
                try with_reducible rfl
                try omega
              try simp only [Act.put, List.setIfInBounds_toArray, List.set_cons_zero, List.set_cons_succ]
              refine wpAnyH_take (i := 8) (oi := ⟨some 94, _, _, _, _, _⟩) (v := .pointer (some ⟨gO, 9, none⟩)) rfl (by kernel_rfl) (by kernel_rfl) (by kernel_rfl) (fun _ _ _ h => h) (Or.inl ⟨by rfl, ?_⟩) hHeld ?_
              · intro ww hS
                try dsimp only at hS
                go_simp
                try with_reducible rfl
                try omega
              try simp only [Act.put, List.setIfInBounds_toArray, List.set_cons_zero, List.set_cons_succ]
              refine wpAnyH_take (i := 9) (oi := ⟨some 95, _, _, _, _, _⟩) (v := .int .i64 (hd : Int)) rfl (by kernel_rfl) (by kernel_rfl) (by kernel_rfl) (fun _ _ _ h => h) (Or.inl ⟨by rfl, ?_⟩) hHeld ?_
              · intro ww hS
                try dsimp only at hS
                have O_9 := ((hS)).at_ 0 9 rfl (v := .int .i64 (hd : Int)) (by show some (Value.int .i64 s.shard) = _; rw [hsd])
                have O_z9 := ((hS)).lt 0 rfl
                go_simp
                try with_reducible rfl
                try omega
              try simp only [Act.put, List.setIfInBounds_toArray, List.set_cons_zero, List.set_cons_succ]
              refine wpAnyH_take (i := 11) (oi := ⟨some 97, _, _, _, _, _⟩) (v := .pointer (some ⟨gH, 3, none⟩)) rfl (by kernel_rfl) (by kernel_rfl) (by kernel_rfl) (fun _ _ _ h => h) (Or.inl ⟨by rfl, ?_⟩) hHeld ?_
              · intro ww hS
                try dsimp only at hS
                go_simp
                try with_reducible rfl
                try omega
              try simp only [Act.put, List.setIfInBounds_toArray, List.set_cons_zero, List.set_cons_succ]
              refine wpAnyH_take (i := 12) (oi := ⟨some 98, _, _, _, _, _⟩) (v := .int .i64 (ns : Int)) rfl (by kernel_rfl) (by kernel_rfl) (by kernel_rfl) (fun _ _ _ h => h) (Or.inl ⟨by rfl, ?_⟩) hHeld ?_
              · intro ww hS
                try dsimp only at hS
                have H_3 := (hS).at_ 1 3 rfl (v := .int .i64 (ns : Int)) rfl
                have H_z := (hS).lt 1 rfl
                go_simp
                try with_reducible rfl
                try omega
              try simp only [Act.put, List.setIfInBounds_toArray, List.set_cons_zero, List.set_cons_succ]
              refine wpAnyH_ready (rs := [4]) (by kernel_rfl) (by simp) ?_
              refine AllReadyH.cons (o := ⟨some 90, _, _, _, _, _⟩) rfl (fun K0 hK => ?_) AllReadyH.nil
              go_simp
              refine ((hOf _).out).mono ?_
              rintro e w7 ⟨rfl, K'⟩
              replace L := L.over K'
              refine hK.out _ _ L (fun hHeld' => ?_)
              clear hHeld hK K0
              have hHeld := hHeld'
              clear hHeld'
              clear K'
              try simp only [Act.put, List.setIfInBounds_toArray, List.set_cons_zero, List.set_cons_succ]
              refine wpAnyH_take (i := 7) (oi := ⟨some 93, _, _, _, _, _⟩) (v := .int .i64 (s1 : Int)) rfl (by kernel_rfl) (by kernel_rfl) (by kernel_rfl) (fun _ _ _ h => h) (Or.inl ⟨by rfl, ?_⟩) hHeld ?_
              · intro ww hS
                try dsimp only at hS
                go_simp
                try with_reducible rfl
                try omega
              try simp only [Act.put, List.setIfInBounds_toArray, List.set_cons_zero, List.set_cons_succ]
              refine wpAnyH_take (i := 10) (oi := ⟨some 96, _, _, _, _, _⟩) (v := .int .i64 (s3 : Int)) rfl (by kernel_rfl) (by kernel_rfl) (by kernel_rfl) (fun _ _ _ h => h) (Or.inl ⟨by rfl, ?_⟩) hHeld ?_
              · intro ww hS
                try dsimp only at hS
                go_simp
                try with_reducible rfl
                try omega
              try simp only [Act.put, List.setIfInBounds_toArray, List.set_cons_zero, List.set_cons_succ]
              refine wpAnyH_ready (rs := [13]) (by kernel_rfl) (by simp) ?_
              refine AllReadyH.cons (o := ⟨some 99, _, _, _, _, _⟩) rfl (fun K0 hK => ?_) AllReadyH.nil
              go_simp
              refine ((hRe _).out).mono ?_
              rintro e w' ⟨rfl, rfl⟩
              refine hK.out _ _ L (fun hHeld' => ?_)
              clear hHeld hK K0
              have hHeld := hHeld'
              clear hHeld'
              try simp only [Act.put, List.setIfInBounds_toArray, List.set_cons_zero, List.set_cons_succ]
              refine wpAnyH_take (i := 14) (oi := ⟨some 16, _, _, _, _, _⟩) (v := .int .i64 (j : Int)) rfl (by kernel_rfl) (by kernel_rfl) (by kernel_rfl) (fun _ _ _ h => h) (Or.inl ⟨by rfl, ?_⟩) hHeld ?_
              · intro ww hS
                try dsimp only at hS
                go_simp
                try with_reducible rfl
                try omega
              try simp only [Act.put, List.setIfInBounds_toArray, List.set_cons_zero, List.set_cons_succ]
              refine wpAnyH_done (by kernel_rfl) ?_ _
              clear hHeld
              have O_10 := (L).at_ 0 10 rfl (v := .int .i64 (k : Int)) (by show some (Value.int .i64 s.sought) = _; rw [hso])
              have O_z10 := (L).lt 0 rfl
              have O_11 := (L).at_ 0 11 rfl (v := .int .i64 (i0 : Int)) (by show some (Value.int .i64 s.leaf) = _; rw [hlf])
              have O_z11 := (L).lt 0 rfl
              go_wp2_with fail
              clear O_10 O_z10 O_11 O_z11
              go_roundw
              case rel => exact ⟨i + 1, by omega, by go_num, L⟩
              case measure => simp [intOf]; omega
            simp only [hbT] at THt
            clear hfi hbT
            replace hkn := Lib.hid hkn
            clear hA1 hA2
            have j1 : decide (j < k) = false := by simp; omega
            have j2 : ((j : Int) == (k : Int)) = true := by simp; omega
            have j3 : decide (i < i0) = false := by simp; omega
            replace q1 := Lib.hid q1
            replace q2 := Lib.hid q2
            replace q3 := Lib.hid q3
            go_wp2_with fail
            refine ((TLv _).out).mono ?_
            rintro e w' ⟨rfl, rfl⟩
            go_wp2_with fail
            refine ((TT1 _).out).mono ?_
            rintro e w' ⟨rfl, rfl⟩
            go_wp2_with fail
            refine ((TR1 _).out).mono ?_
            rintro e w' ⟨rfl, rfl⟩
            have X1 := (L.K.cell (p := ⟨bb, oo + cl, none⟩) hbb).trans XT
            go_wp2_with fail
            refine ((THt _).out).mono ?_
            rintro e w' ⟨rfl, rfl⟩
            clear X1
            go_upto_region 17 with (fail)
            replace L := L.drew
            refine wp_region_held_drew (S := fun w' => Loc w w' [(gO, 41, opv h s), (gH, 27, #[.int .u32 (a : Int), .int .i64 p, .slice A n c, .int .i64 (ns : Int), .int .i64 wo, .int .i64 qu, .int .i64 tr])] []) (by kernel_rfl) L (fun hHeld => ?_)
            generalize wr.drew = v6 at hHeld L ⊢
            refine wpAnyH_take (i := 0) (oi := ⟨some 86, _, _, _, _, _⟩) (v := .int .i64 (M : Int)) rfl (by kernel_rfl) (by kernel_rfl) (by kernel_rfl) (fun _ _ _ h => h) (Or.inl ⟨by rfl, ?_⟩) hHeld ?_
            · intro ww hS
              try dsimp only at hS
              go_simp
              try with_reducible rfl
              try omega
            try simp only [Act.put, List.setIfInBounds_toArray, List.set_cons_zero, List.set_cons_succ]
            refine wpAnyH_take (i := 1) (oi := ⟨some 87, _, _, _, _, _⟩) (v := .pointer (some ⟨gH, 3, none⟩)) rfl (by kernel_rfl) (by kernel_rfl) (by kernel_rfl) (fun _ _ _ h => h) (Or.inl ⟨by rfl, ?_⟩) hHeld ?_
            · intro ww hS
              try dsimp only at hS
              go_simp
              try with_reducible rfl
              try omega
            try simp only [Act.put, List.setIfInBounds_toArray, List.set_cons_zero, List.set_cons_succ]
            refine wpAnyH_take (i := 2) (oi := ⟨some 88, _, _, _, _, _⟩) (v := .int .i64 (ns : Int)) rfl (by kernel_rfl) (by kernel_rfl) (by kernel_rfl) (fun _ _ _ h => h) (Or.inl ⟨by rfl, ?_⟩) hHeld ?_
            · intro ww hS
              try dsimp only at hS
              have H_3 := (hS).at_ 1 3 rfl (v := .int .i64 (ns : Int)) rfl
              have H_z := (hS).lt 1 rfl
              go_simp
              try with_reducible rfl
              try omega
            try simp only [Act.put, List.setIfInBounds_toArray, List.set_cons_zero, List.set_cons_succ]
            refine wpAnyH_take (i := 3) (oi := ⟨some 89, _, _, _, _, _⟩) (v := .int .i64 (i : Int)) rfl (by kernel_rfl) (by kernel_rfl) (by kernel_rfl) (fun _ _ _ h => h) (Or.inl ⟨by rfl, ?_⟩) hHeld ?_
            · intro ww hS
              try dsimp only at hS
              go_simp
              try with_reducible rfl
              try omega
            try simp only [Act.put, List.setIfInBounds_toArray, List.set_cons_zero, List.set_cons_succ]
            refine wpAnyH_take (i := 5) (oi := ⟨some 91, _, _, _, _, _⟩) (v := .pointer (some ⟨gH, 3, none⟩)) rfl (by kernel_rfl) (by kernel_rfl) (by kernel_rfl) (fun _ _ _ h => h) (Or.inl ⟨by rfl, ?_⟩) hHeld ?_
            · intro ww hS
              try dsimp only at hS
              go_simp
              try with_reducible rfl
              try omega
            try simp only [Act.put, List.setIfInBounds_toArray, List.set_cons_zero, List.set_cons_succ]
            refine wpAnyH_take (i := 6) (oi := ⟨some 92, _, _, _, _, _⟩) (v := .int .i64 (ns : Int)) rfl (by kernel_rfl) (by kernel_rfl) (by kernel_rfl) (fun _ _ _ h => h) (Or.inl ⟨by rfl, ?_⟩) hHeld ?_
            · intro ww hS
              try dsimp only at hS
              have H_3 := (hS).at_ 1 3 rfl (v := .int .i64 (ns : Int)) rfl
              have H_z := (hS).lt 1 rfl
              go_simp
              try with_reducible rfl
              try omega
            try simp only [Act.put, List.setIfInBounds_toArray, List.set_cons_zero, List.set_cons_succ]
            refine wpAnyH_take (i := 8) (oi := ⟨some 94, _, _, _, _, _⟩) (v := .pointer (some ⟨gO, 9, none⟩)) rfl (by kernel_rfl) (by kernel_rfl) (by kernel_rfl) (fun _ _ _ h => h) (Or.inl ⟨by rfl, ?_⟩) hHeld ?_
            · intro ww hS
              try dsimp only at hS
              go_simp
              try with_reducible rfl
              try omega
            try simp only [Act.put, List.setIfInBounds_toArray, List.set_cons_zero, List.set_cons_succ]
            refine wpAnyH_take (i := 9) (oi := ⟨some 95, _, _, _, _, _⟩) (v := .int .i64 (hd : Int)) rfl (by kernel_rfl) (by kernel_rfl) (by kernel_rfl) (fun _ _ _ h => h) (Or.inl ⟨by rfl, ?_⟩) hHeld ?_
            · intro ww hS
              try dsimp only at hS
              have O_9 := ((hS)).at_ 0 9 rfl (v := .int .i64 (hd : Int)) (by show some (Value.int .i64 s.shard) = _; rw [hsd])
              have O_z9 := ((hS)).lt 0 rfl
              go_simp
              try with_reducible rfl
              try omega
            try simp only [Act.put, List.setIfInBounds_toArray, List.set_cons_zero, List.set_cons_succ]
            refine wpAnyH_take (i := 11) (oi := ⟨some 97, _, _, _, _, _⟩) (v := .pointer (some ⟨gH, 3, none⟩)) rfl (by kernel_rfl) (by kernel_rfl) (by kernel_rfl) (fun _ _ _ h => h) (Or.inl ⟨by rfl, ?_⟩) hHeld ?_
            · intro ww hS
              try dsimp only at hS
              go_simp
              try with_reducible rfl
              try omega
            try simp only [Act.put, List.setIfInBounds_toArray, List.set_cons_zero, List.set_cons_succ]
            refine wpAnyH_take (i := 12) (oi := ⟨some 98, _, _, _, _, _⟩) (v := .int .i64 (ns : Int)) rfl (by kernel_rfl) (by kernel_rfl) (by kernel_rfl) (fun _ _ _ h => h) (Or.inl ⟨by rfl, ?_⟩) hHeld ?_
            · intro ww hS
              try dsimp only at hS
              have H_3 := (hS).at_ 1 3 rfl (v := .int .i64 (ns : Int)) rfl
              have H_z := (hS).lt 1 rfl
              go_simp
              try with_reducible rfl
              try omega
            try simp only [Act.put, List.setIfInBounds_toArray, List.set_cons_zero, List.set_cons_succ]
            refine wpAnyH_ready (rs := [4]) (by kernel_rfl) (by simp) ?_
            refine AllReadyH.cons (o := ⟨some 90, _, _, _, _, _⟩) rfl (fun K0 hK => ?_) AllReadyH.nil
            go_simp
            refine ((hOf _).out).mono ?_
            rintro e w7 ⟨rfl, K'⟩
            replace L := L.over K'
            refine hK.out _ _ L (fun hHeld' => ?_)
            clear hHeld hK K0
            have hHeld := hHeld'
            clear hHeld'
            clear K'
            try simp only [Act.put, List.setIfInBounds_toArray, List.set_cons_zero, List.set_cons_succ]
            refine wpAnyH_take (i := 7) (oi := ⟨some 93, _, _, _, _, _⟩) (v := .int .i64 (s1 : Int)) rfl (by kernel_rfl) (by kernel_rfl) (by kernel_rfl) (fun _ _ _ h => h) (Or.inl ⟨by rfl, ?_⟩) hHeld ?_
            · intro ww hS
              try dsimp only at hS
              go_simp
              try with_reducible rfl
              try omega
            try simp only [Act.put, List.setIfInBounds_toArray, List.set_cons_zero, List.set_cons_succ]
            refine wpAnyH_take (i := 10) (oi := ⟨some 96, _, _, _, _, _⟩) (v := .int .i64 (s3 : Int)) rfl (by kernel_rfl) (by kernel_rfl) (by kernel_rfl) (fun _ _ _ h => h) (Or.inl ⟨by rfl, ?_⟩) hHeld ?_
            · intro ww hS
              try dsimp only at hS
              go_simp
              try with_reducible rfl
              try omega
            try simp only [Act.put, List.setIfInBounds_toArray, List.set_cons_zero, List.set_cons_succ]
            refine wpAnyH_ready (rs := [13]) (by kernel_rfl) (by simp) ?_
            refine AllReadyH.cons (o := ⟨some 99, _, _, _, _, _⟩) rfl (fun K0 hK => ?_) AllReadyH.nil
            go_simp
            refine ((hRe _).out).mono ?_
            rintro e w' ⟨rfl, rfl⟩
            refine hK.out _ _ L (fun hHeld' => ?_)
            clear hHeld hK K0
            have hHeld := hHeld'
            clear hHeld'
            try simp only [Act.put, List.setIfInBounds_toArray, List.set_cons_zero, List.set_cons_succ]
            refine wpAnyH_take (i := 14) (oi := ⟨some 16, _, _, _, _, _⟩) (v := .int .i64 (j : Int)) rfl (by kernel_rfl) (by kernel_rfl) (by kernel_rfl) (fun _ _ _ h => h) (Or.inl ⟨by rfl, ?_⟩) hHeld ?_
            · intro ww hS
              try dsimp only at hS
              go_simp
              try with_reducible rfl
              try omega
            try simp only [Act.put, List.setIfInBounds_toArray, List.set_cons_zero, List.set_cons_succ]
            refine wpAnyH_done (by kernel_rfl) ?_ _
            clear hHeld
            have O_10 := (L).at_ 0 10 rfl (v := .int .i64 (k : Int)) (by show some (Value.int .i64 s.sought) = _; rw [hso])
            have O_z10 := (L).lt 0 rfl
            have O_11 := (L).at_ 0 11 rfl (v := .int .i64 (i0 : Int)) (by show some (Value.int .i64 s.leaf) = _; rw [hlf])
            have O_z11 := (L).lt 0 rfl
            go_wp2_with fail
            clear O_10 O_z10 O_11 O_z11
            go_roundw
            case rel => exact ⟨i + 1, by omega, by go_num, L⟩
            case measure => simp [intOf]; omega
          cases hbR : wR.testBit rb
          rotate_left
          · by_cases q1 : j < k
            · simp only [hbT] at THt
              simp only [hbR] at THr
              clear hfi hbT hbR
              replace hkn := Lib.hid hkn
              clear hA1 hA2
              have j1 : decide (j < k) = true := by simp; omega
              replace q1 := Lib.hid q1
              go_wp2_with fail
              refine ((TLv _).out).mono ?_
              rintro e w' ⟨rfl, rfl⟩
              go_wp2_with fail
              refine ((TT1 _).out).mono ?_
              rintro e w' ⟨rfl, rfl⟩
              go_wp2_with fail
              refine ((TR1 _).out).mono ?_
              rintro e w' ⟨rfl, rfl⟩
              have X1 := (L.K.cell (p := ⟨bb, oo + cl, none⟩) hbb).trans XT
              go_wp2_with fail
              refine ((THt _).out).mono ?_
              rintro e w' ⟨rfl, rfl⟩
              clear X1
              have X2 := (L.K.cell (p := ⟨bb, oo + rc, none⟩) hbb).trans XR
              go_wp2_with fail
              refine ((THr _).out).mono ?_
              rintro e w' ⟨rfl, rfl⟩
              clear X2
              go_upto_region 17 with (fail)
              replace L := L.drew
              refine wp_region_held_drew (S := fun w' => Loc w w' [(gO, 41, opv h s), (gH, 27, #[.int .u32 (a : Int), .int .i64 p, .slice A n c, .int .i64 (ns : Int), .int .i64 wo, .int .i64 qu, .int .i64 tr])] []) (by kernel_rfl) L (fun hHeld => ?_)
              generalize wr.drew = v6 at hHeld L ⊢
              refine wpAnyH_take (i := 0) (oi := ⟨some 86, _, _, _, _, _⟩) (v := .int .i64 (M : Int)) rfl (by kernel_rfl) (by kernel_rfl) (by kernel_rfl) (fun _ _ _ h => h) (Or.inl ⟨by rfl, ?_⟩) hHeld ?_
              · intro ww hS
                try dsimp only at hS
                go_simp
                try with_reducible rfl
                try omega
              try simp only [Act.put, List.setIfInBounds_toArray, List.set_cons_zero, List.set_cons_succ]
              refine wpAnyH_take (i := 1) (oi := ⟨some 87, _, _, _, _, _⟩) (v := .pointer (some ⟨gH, 3, none⟩)) rfl (by kernel_rfl) (by kernel_rfl) (by kernel_rfl) (fun _ _ _ h => h) (Or.inl ⟨by rfl, ?_⟩) hHeld ?_
              · intro ww hS
                try dsimp only at hS
                go_simp
                try with_reducible rfl
                try omega
              try simp only [Act.put, List.setIfInBounds_toArray, List.set_cons_zero, List.set_cons_succ]
              refine wpAnyH_take (i := 2) (oi := ⟨some 88, _, _, _, _, _⟩) (v := .int .i64 (ns : Int)) rfl (by kernel_rfl) (by kernel_rfl) (by kernel_rfl) (fun _ _ _ h => h) (Or.inl ⟨by rfl, ?_⟩) hHeld ?_
              · intro ww hS
                try dsimp only at hS
                have H_3 := (hS).at_ 1 3 rfl (v := .int .i64 (ns : Int)) rfl
                have H_z := (hS).lt 1 rfl
                go_simp
                try with_reducible rfl
                try omega
              try simp only [Act.put, List.setIfInBounds_toArray, List.set_cons_zero, List.set_cons_succ]
              refine wpAnyH_take (i := 3) (oi := ⟨some 89, _, _, _, _, _⟩) (v := .int .i64 (i : Int)) rfl (by kernel_rfl) (by kernel_rfl) (by kernel_rfl) (fun _ _ _ h => h) (Or.inl ⟨by rfl, ?_⟩) hHeld ?_
              · intro ww hS
                try dsimp only at hS
                go_simp
                try with_reducible rfl
                try omega
              try simp only [Act.put, List.setIfInBounds_toArray, List.set_cons_zero, List.set_cons_succ]
              refine wpAnyH_take (i := 5) (oi := ⟨some 91, _, _, _, _, _⟩) (v := .pointer (some ⟨gH, 3, none⟩)) rfl (by kernel_rfl) (by kernel_rfl) (by kernel_rfl) (fun _ _ _ h => h) (Or.inl ⟨by rfl, ?_⟩) hHeld ?_
              · intro ww hS
                try dsimp only at hS
                go_simp
                try with_reducible rfl
                try omega
              try simp only [Act.put, List.setIfInBounds_toArray, List.set_cons_zero, List.set_cons_succ]
              refine wpAnyH_take (i := 6) (oi := ⟨some 92, _, _, _, _, _⟩) (v := .int .i64 (ns : Int)) rfl (by kernel_rfl) (by kernel_rfl) (by kernel_rfl) (fun _ _ _ h => h) (Or.inl ⟨by rfl, ?_⟩) hHeld ?_
              · intro ww hS
                try dsimp only at hS
                have H_3 := (hS).at_ 1 3 rfl (v := .int .i64 (ns : Int)) rfl
                have H_z := (hS).lt 1 rfl
                go_simp
                try with_reducible rfl
                try omega
              try simp only [Act.put, List.setIfInBounds_toArray, List.set_cons_zero, List.set_cons_succ]
              refine wpAnyH_take (i := 8) (oi := ⟨some 94, _, _, _, _, _⟩) (v := .pointer (some ⟨gO, 9, none⟩)) rfl (by kernel_rfl) (by kernel_rfl) (by kernel_rfl) (fun _ _ _ h => h) (Or.inl ⟨by rfl, ?_⟩) hHeld ?_
              · intro ww hS
                try dsimp only at hS
                go_simp
                try with_reducible rfl
                try omega
              try simp only [Act.put, List.setIfInBounds_toArray, List.set_cons_zero, List.set_cons_succ]
              refine wpAnyH_take (i := 9) (oi := ⟨some 95, _, _, _, _, _⟩) (v := .int .i64 (hd : Int)) rfl (by kernel_rfl) (by kernel_rfl) (by kernel_rfl) (fun _ _ _ h => h) (Or.inl ⟨by rfl, ?_⟩) hHeld ?_
              · intro ww hS
                try dsimp only at hS
                have O_9 := ((hS)).at_ 0 9 rfl (v := .int .i64 (hd : Int)) (by show some (Value.int .i64 s.shard) = _; rw [hsd])
                have O_z9 := ((hS)).lt 0 rfl
                go_simp
                try with_reducible rfl
                try omega
              try simp only [Act.put, List.setIfInBounds_toArray, List.set_cons_zero, List.set_cons_succ]
              refine wpAnyH_take (i := 11) (oi := ⟨some 97, _, _, _, _, _⟩) (v := .pointer (some ⟨gH, 3, none⟩)) rfl (by kernel_rfl) (by kernel_rfl) (by kernel_rfl) (fun _ _ _ h => h) (Or.inl ⟨by rfl, ?_⟩) hHeld ?_
              · intro ww hS
                try dsimp only at hS
                go_simp
                try with_reducible rfl
                try omega
              try simp only [Act.put, List.setIfInBounds_toArray, List.set_cons_zero, List.set_cons_succ]
              refine wpAnyH_take (i := 12) (oi := ⟨some 98, _, _, _, _, _⟩) (v := .int .i64 (ns : Int)) rfl (by kernel_rfl) (by kernel_rfl) (by kernel_rfl) (fun _ _ _ h => h) (Or.inl ⟨by rfl, ?_⟩) hHeld ?_
              · intro ww hS
                try dsimp only at hS
                have H_3 := (hS).at_ 1 3 rfl (v := .int .i64 (ns : Int)) rfl
                have H_z := (hS).lt 1 rfl
                go_simp
                try with_reducible rfl
                try omega
              try simp only [Act.put, List.setIfInBounds_toArray, List.set_cons_zero, List.set_cons_succ]
              refine wpAnyH_ready (rs := [4]) (by kernel_rfl) (by simp) ?_
              refine AllReadyH.cons (o := ⟨some 90, _, _, _, _, _⟩) rfl (fun K0 hK => ?_) AllReadyH.nil
              go_simp
              refine ((hOf _).out).mono ?_
              rintro e w7 ⟨rfl, K'⟩
              replace L := L.over K'
              refine hK.out _ _ L (fun hHeld' => ?_)
              clear hHeld hK K0
              have hHeld := hHeld'
              clear hHeld'
              clear K'
              try simp only [Act.put, List.setIfInBounds_toArray, List.set_cons_zero, List.set_cons_succ]
              refine wpAnyH_take (i := 7) (oi := ⟨some 93, _, _, _, _, _⟩) (v := .int .i64 (s1 : Int)) rfl (by kernel_rfl) (by kernel_rfl) (by kernel_rfl) (fun _ _ _ h => h) (Or.inl ⟨by rfl, ?_⟩) hHeld ?_
              · intro ww hS
                try dsimp only at hS
                go_simp
                try with_reducible rfl
                try omega
              try simp only [Act.put, List.setIfInBounds_toArray, List.set_cons_zero, List.set_cons_succ]
              refine wpAnyH_take (i := 10) (oi := ⟨some 96, _, _, _, _, _⟩) (v := .int .i64 (s3 : Int)) rfl (by kernel_rfl) (by kernel_rfl) (by kernel_rfl) (fun _ _ _ h => h) (Or.inl ⟨by rfl, ?_⟩) hHeld ?_
              · intro ww hS
                try dsimp only at hS
                go_simp
                try with_reducible rfl
                try omega
              try simp only [Act.put, List.setIfInBounds_toArray, List.set_cons_zero, List.set_cons_succ]
              refine wpAnyH_ready (rs := [13]) (by kernel_rfl) (by simp) ?_
              refine AllReadyH.cons (o := ⟨some 99, _, _, _, _, _⟩) rfl (fun K0 hK => ?_) AllReadyH.nil
              go_simp
              refine ((hRe _).out).mono ?_
              rintro e w' ⟨rfl, rfl⟩
              refine hK.out _ _ L (fun hHeld' => ?_)
              clear hHeld hK K0
              have hHeld := hHeld'
              clear hHeld'
              try simp only [Act.put, List.setIfInBounds_toArray, List.set_cons_zero, List.set_cons_succ]
              refine wpAnyH_take (i := 14) (oi := ⟨some 16, _, _, _, _, _⟩) (v := .int .i64 (j : Int)) rfl (by kernel_rfl) (by kernel_rfl) (by kernel_rfl) (fun _ _ _ h => h) (Or.inl ⟨by rfl, ?_⟩) hHeld ?_
              · intro ww hS
                try dsimp only at hS
                go_simp
                try with_reducible rfl
                try omega
              try simp only [Act.put, List.setIfInBounds_toArray, List.set_cons_zero, List.set_cons_succ]
              refine wpAnyH_done (by kernel_rfl) ?_ _
              clear hHeld
              have O_10 := (L).at_ 0 10 rfl (v := .int .i64 (k : Int)) (by show some (Value.int .i64 s.sought) = _; rw [hso])
              have O_z10 := (L).lt 0 rfl
              go_wp2_with fail
              clear O_10 O_z10
              go_roundw
              case rel => exact ⟨i + 1, by omega, by go_num, L⟩
              case measure => simp [intOf]; omega
            by_cases q2 : j = k
            rotate_left
            · simp only [hbT] at THt
              simp only [hbR] at THr
              clear hfi hbT hbR
              replace hkn := Lib.hid hkn
              clear hA1 hA2
              have j1 : decide (j < k) = false := by simp; omega
              have j2 : ((j : Int) == (k : Int)) = false := by simp; omega
              replace q1 := Lib.hid q1
              replace q2 := Lib.hid q2
              go_wp2_with fail
              refine ((TLv _).out).mono ?_
              rintro e w' ⟨rfl, rfl⟩
              go_wp2_with fail
              refine ((TT1 _).out).mono ?_
              rintro e w' ⟨rfl, rfl⟩
              go_wp2_with fail
              refine ((TR1 _).out).mono ?_
              rintro e w' ⟨rfl, rfl⟩
              have X1 := (L.K.cell (p := ⟨bb, oo + cl, none⟩) hbb).trans XT
              go_wp2_with fail
              refine ((THt _).out).mono ?_
              rintro e w' ⟨rfl, rfl⟩
              clear X1
              have X2 := (L.K.cell (p := ⟨bb, oo + rc, none⟩) hbb).trans XR
              go_wp2_with fail
              refine ((THr _).out).mono ?_
              rintro e w' ⟨rfl, rfl⟩
              clear X2
              go_upto_region 17 with (fail)
              replace L := L.drew
              refine wp_region_held_drew (S := fun w' => Loc w w' [(gO, 41, opv h s), (gH, 27, #[.int .u32 (a : Int), .int .i64 p, .slice A n c, .int .i64 (ns : Int), .int .i64 wo, .int .i64 qu, .int .i64 tr])] []) (by kernel_rfl) L (fun hHeld => ?_)
              generalize wr.drew = v6 at hHeld L ⊢
              refine wpAnyH_take (i := 0) (oi := ⟨some 86, _, _, _, _, _⟩) (v := .int .i64 (M : Int)) rfl (by kernel_rfl) (by kernel_rfl) (by kernel_rfl) (fun _ _ _ h => h) (Or.inl ⟨by rfl, ?_⟩) hHeld ?_
              · intro ww hS
                try dsimp only at hS
                go_simp
                try with_reducible rfl
                try omega
              try simp only [Act.put, List.setIfInBounds_toArray, List.set_cons_zero, List.set_cons_succ]
              refine wpAnyH_take (i := 1) (oi := ⟨some 87, _, _, _, _, _⟩) (v := .pointer (some ⟨gH, 3, none⟩)) rfl (by kernel_rfl) (by kernel_rfl) (by kernel_rfl) (fun _ _ _ h => h) (Or.inl ⟨by rfl, ?_⟩) hHeld ?_
              · intro ww hS
                try dsimp only at hS
                go_simp
                try with_reducible rfl
                try omega
              try simp only [Act.put, List.setIfInBounds_toArray, List.set_cons_zero, List.set_cons_succ]
              refine wpAnyH_take (i := 2) (oi := ⟨some 88, _, _, _, _, _⟩) (v := .int .i64 (ns : Int)) rfl (by kernel_rfl) (by kernel_rfl) (by kernel_rfl) (fun _ _ _ h => h) (Or.inl ⟨by rfl, ?_⟩) hHeld ?_
              · intro ww hS
                try dsimp only at hS
                have H_3 := (hS).at_ 1 3 rfl (v := .int .i64 (ns : Int)) rfl
                have H_z := (hS).lt 1 rfl
                go_simp
                try with_reducible rfl
                try omega
              try simp only [Act.put, List.setIfInBounds_toArray, List.set_cons_zero, List.set_cons_succ]
              refine wpAnyH_take (i := 3) (oi := ⟨some 89, _, _, _, _, _⟩) (v := .int .i64 (i : Int)) rfl (by kernel_rfl) (by kernel_rfl) (by kernel_rfl) (fun _ _ _ h => h) (Or.inl ⟨by rfl, ?_⟩) hHeld ?_
              · intro ww hS
                try dsimp only at hS
                go_simp
                try with_reducible rfl
                try omega
              try simp only [Act.put, List.setIfInBounds_toArray, List.set_cons_zero, List.set_cons_succ]
              refine wpAnyH_take (i := 5) (oi := ⟨some 91, _, _, _, _, _⟩) (v := .pointer (some ⟨gH, 3, none⟩)) rfl (by kernel_rfl) (by kernel_rfl) (by kernel_rfl) (fun _ _ _ h => h) (Or.inl ⟨by rfl, ?_⟩) hHeld ?_
              · intro ww hS
                try dsimp only at hS
                go_simp
                try with_reducible rfl
                try omega
              try simp only [Act.put, List.setIfInBounds_toArray, List.set_cons_zero, List.set_cons_succ]
              refine wpAnyH_take (i := 6) (oi := ⟨some 92, _, _, _, _, _⟩) (v := .int .i64 (ns : Int)) rfl (by kernel_rfl) (by kernel_rfl) (by kernel_rfl) (fun _ _ _ h => h) (Or.inl ⟨by rfl, ?_⟩) hHeld ?_
              · intro ww hS
                try dsimp only at hS
                have H_3 := (hS).at_ 1 3 rfl (v := .int .i64 (ns : Int)) rfl
                have H_z := (hS).lt 1 rfl
                go_simp
                try with_reducible rfl
                try omega
              try simp only [Act.put, List.setIfInBounds_toArray, List.set_cons_zero, List.set_cons_succ]
              refine wpAnyH_take (i := 8) (oi := ⟨some 94, _, _, _, _, _⟩) (v := .pointer (some ⟨gO, 9, none⟩)) rfl (by kernel_rfl) (by kernel_rfl) (by kernel_rfl) (fun _ _ _ h => h) (Or.inl ⟨by rfl, ?_⟩) hHeld ?_
              · intro ww hS
                try dsimp only at hS
                go_simp
                try with_reducible rfl
                try omega
              try simp only [Act.put, List.setIfInBounds_toArray, List.set_cons_zero, List.set_cons_succ]
              refine wpAnyH_take (i := 9) (oi := ⟨some 95, _, _, _, _, _⟩) (v := .int .i64 (hd : Int)) rfl (by kernel_rfl) (by kernel_rfl) (by kernel_rfl) (fun _ _ _ h => h) (Or.inl ⟨by rfl, ?_⟩) hHeld ?_
              · intro ww hS
                try dsimp only at hS
                have O_9 := ((hS)).at_ 0 9 rfl (v := .int .i64 (hd : Int)) (by show some (Value.int .i64 s.shard) = _; rw [hsd])
                have O_z9 := ((hS)).lt 0 rfl
                go_simp
                try with_reducible rfl
                try omega
              try simp only [Act.put, List.setIfInBounds_toArray, List.set_cons_zero, List.set_cons_succ]
              refine wpAnyH_take (i := 11) (oi := ⟨some 97, _, _, _, _, _⟩) (v := .pointer (some ⟨gH, 3, none⟩)) rfl (by kernel_rfl) (by kernel_rfl) (by kernel_rfl) (fun _ _ _ h => h) (Or.inl ⟨by rfl, ?_⟩) hHeld ?_
              · intro ww hS
                try dsimp only at hS
                go_simp
                try with_reducible rfl
                try omega
              try simp only [Act.put, List.setIfInBounds_toArray, List.set_cons_zero, List.set_cons_succ]
              refine wpAnyH_take (i := 12) (oi := ⟨some 98, _, _, _, _, _⟩) (v := .int .i64 (ns : Int)) rfl (by kernel_rfl) (by kernel_rfl) (by kernel_rfl) (fun _ _ _ h => h) (Or.inl ⟨by rfl, ?_⟩) hHeld ?_
              · intro ww hS
                try dsimp only at hS
                have H_3 := (hS).at_ 1 3 rfl (v := .int .i64 (ns : Int)) rfl
                have H_z := (hS).lt 1 rfl
                go_simp
                try with_reducible rfl
                try omega
              try simp only [Act.put, List.setIfInBounds_toArray, List.set_cons_zero, List.set_cons_succ]
              refine wpAnyH_ready (rs := [4]) (by kernel_rfl) (by simp) ?_
              refine AllReadyH.cons (o := ⟨some 90, _, _, _, _, _⟩) rfl (fun K0 hK => ?_) AllReadyH.nil
              go_simp
              refine ((hOf _).out).mono ?_
              rintro e w7 ⟨rfl, K'⟩
              replace L := L.over K'
              refine hK.out _ _ L (fun hHeld' => ?_)
              clear hHeld hK K0
              have hHeld := hHeld'
              clear hHeld'
              clear K'
              try simp only [Act.put, List.setIfInBounds_toArray, List.set_cons_zero, List.set_cons_succ]
              refine wpAnyH_take (i := 7) (oi := ⟨some 93, _, _, _, _, _⟩) (v := .int .i64 (s1 : Int)) rfl (by kernel_rfl) (by kernel_rfl) (by kernel_rfl) (fun _ _ _ h => h) (Or.inl ⟨by rfl, ?_⟩) hHeld ?_
              · intro ww hS
                try dsimp only at hS
                go_simp
                try with_reducible rfl
                try omega
              try simp only [Act.put, List.setIfInBounds_toArray, List.set_cons_zero, List.set_cons_succ]
              refine wpAnyH_take (i := 10) (oi := ⟨some 96, _, _, _, _, _⟩) (v := .int .i64 (s3 : Int)) rfl (by kernel_rfl) (by kernel_rfl) (by kernel_rfl) (fun _ _ _ h => h) (Or.inl ⟨by rfl, ?_⟩) hHeld ?_
              · intro ww hS
                try dsimp only at hS
                go_simp
                try with_reducible rfl
                try omega
              try simp only [Act.put, List.setIfInBounds_toArray, List.set_cons_zero, List.set_cons_succ]
              refine wpAnyH_ready (rs := [13]) (by kernel_rfl) (by simp) ?_
              refine AllReadyH.cons (o := ⟨some 99, _, _, _, _, _⟩) rfl (fun K0 hK => ?_) AllReadyH.nil
              go_simp
              refine ((hRe _).out).mono ?_
              rintro e w' ⟨rfl, rfl⟩
              refine hK.out _ _ L (fun hHeld' => ?_)
              clear hHeld hK K0
              have hHeld := hHeld'
              clear hHeld'
              try simp only [Act.put, List.setIfInBounds_toArray, List.set_cons_zero, List.set_cons_succ]
              refine wpAnyH_take (i := 14) (oi := ⟨some 16, _, _, _, _, _⟩) (v := .int .i64 (j : Int)) rfl (by kernel_rfl) (by kernel_rfl) (by kernel_rfl) (fun _ _ _ h => h) (Or.inl ⟨by rfl, ?_⟩) hHeld ?_
              · intro ww hS
                try dsimp only at hS
                go_simp
                try with_reducible rfl
                try omega
              try simp only [Act.put, List.setIfInBounds_toArray, List.set_cons_zero, List.set_cons_succ]
              refine wpAnyH_done (by kernel_rfl) ?_ _
              clear hHeld
              have O_10 := (L).at_ 0 10 rfl (v := .int .i64 (k : Int)) (by show some (Value.int .i64 s.sought) = _; rw [hso])
              have O_z10 := (L).lt 0 rfl
              go_wp2_with fail
              clear O_10 O_z10
              go_roundw
              case rel => exact ⟨i + 1, by omega, by go_num, L⟩
              case measure => simp [intOf]; omega
            by_cases q3 : i < i0
            · simp only [hbT] at THt
              simp only [hbR] at THr
              clear hfi hbT hbR
              replace hkn := Lib.hid hkn
              clear hA1 hA2
              have j1 : decide (j < k) = false := by simp; omega
              have j2 : ((j : Int) == (k : Int)) = true := by simp; omega
              have j3 : decide (i < i0) = true := by simp; omega
              replace q1 := Lib.hid q1
              replace q2 := Lib.hid q2
              replace q3 := Lib.hid q3
              go_wp2_with fail
              refine ((TLv _).out).mono ?_
              rintro e w' ⟨rfl, rfl⟩
              go_wp2_with fail
              refine ((TT1 _).out).mono ?_
              rintro e w' ⟨rfl, rfl⟩
              go_wp2_with fail
              refine ((TR1 _).out).mono ?_
              rintro e w' ⟨rfl, rfl⟩
              have X1 := (L.K.cell (p := ⟨bb, oo + cl, none⟩) hbb).trans XT
              go_wp2_with fail
              refine ((THt _).out).mono ?_
              rintro e w' ⟨rfl, rfl⟩
              clear X1
              have X2 := (L.K.cell (p := ⟨bb, oo + rc, none⟩) hbb).trans XR
              go_wp2_with fail
              refine ((THr _).out).mono ?_
              rintro e w' ⟨rfl, rfl⟩
              clear X2
              go_upto_region 17 with (fail)
              replace L := L.drew
              refine wp_region_held_drew (S := fun w' => Loc w w' [(gO, 41, opv h s), (gH, 27, #[.int .u32 (a : Int), .int .i64 p, .slice A n c, .int .i64 (ns : Int), .int .i64 wo, .int .i64 qu, .int .i64 tr])] []) (by kernel_rfl) L (fun hHeld => ?_)
              generalize wr.drew = v6 at hHeld L ⊢
              refine wpAnyH_take (i := 0) (oi := ⟨some 86, _, _, _, _, _⟩) (v := .int .i64 (M : Int)) rfl (by kernel_rfl) (by kernel_rfl) (by kernel_rfl) (fun _ _ _ h => h) (Or.inl ⟨by rfl, ?_⟩) hHeld ?_
              · intro ww hS
                try dsimp only at hS
                go_simp
                try with_reducible rfl
                try omega
              try simp only [Act.put, List.setIfInBounds_toArray, List.set_cons_zero, List.set_cons_succ]
              refine wpAnyH_take (i := 1) (oi := ⟨some 87, _, _, _, _, _⟩) (v := .pointer (some ⟨gH, 3, none⟩)) rfl (by kernel_rfl) (by kernel_rfl) (by kernel_rfl) (fun _ _ _ h => h) (Or.inl ⟨by rfl, ?_⟩) hHeld ?_
              · intro ww hS
                try dsimp only at hS
                go_simp
                try with_reducible rfl
                try omega
              try simp only [Act.put, List.setIfInBounds_toArray, List.set_cons_zero, List.set_cons_succ]
              refine wpAnyH_take (i := 2) (oi := ⟨some 88, _, _, _, _, _⟩) (v := .int .i64 (ns : Int)) rfl (by kernel_rfl) (by kernel_rfl) (by kernel_rfl) (fun _ _ _ h => h) (Or.inl ⟨by rfl, ?_⟩) hHeld ?_
              · intro ww hS
                try dsimp only at hS
                have H_3 := (hS).at_ 1 3 rfl (v := .int .i64 (ns : Int)) rfl
                have H_z := (hS).lt 1 rfl
                go_simp
                try with_reducible rfl
                try omega
              try simp only [Act.put, List.setIfInBounds_toArray, List.set_cons_zero, List.set_cons_succ]
              refine wpAnyH_take (i := 3) (oi := ⟨some 89, _, _, _, _, _⟩) (v := .int .i64 (i : Int)) rfl (by kernel_rfl) (by kernel_rfl) (by kernel_rfl) (fun _ _ _ h => h) (Or.inl ⟨by rfl, ?_⟩) hHeld ?_
              · intro ww hS
                try dsimp only at hS
                go_simp
                try with_reducible rfl
                try omega
              try simp only [Act.put, List.setIfInBounds_toArray, List.set_cons_zero, List.set_cons_succ]
              refine wpAnyH_take (i := 5) (oi := ⟨some 91, _, _, _, _, _⟩) (v := .pointer (some ⟨gH, 3, none⟩)) rfl (by kernel_rfl) (by kernel_rfl) (by kernel_rfl) (fun _ _ _ h => h) (Or.inl ⟨by rfl, ?_⟩) hHeld ?_
              · intro ww hS
                try dsimp only at hS
                go_simp
                try with_reducible rfl
                try omega
              try simp only [Act.put, List.setIfInBounds_toArray, List.set_cons_zero, List.set_cons_succ]
              refine wpAnyH_take (i := 6) (oi := ⟨some 92, _, _, _, _, _⟩) (v := .int .i64 (ns : Int)) rfl (by kernel_rfl) (by kernel_rfl) (by kernel_rfl) (fun _ _ _ h => h) (Or.inl ⟨by rfl, ?_⟩) hHeld ?_
              · intro ww hS
                try dsimp only at hS
                have H_3 := (hS).at_ 1 3 rfl (v := .int .i64 (ns : Int)) rfl
                have H_z := (hS).lt 1 rfl
                go_simp
                try with_reducible rfl
                try omega
              try simp only [Act.put, List.setIfInBounds_toArray, List.set_cons_zero, List.set_cons_succ]
              refine wpAnyH_take (i := 8) (oi := ⟨some 94, _, _, _, _, _⟩) (v := .pointer (some ⟨gO, 9, none⟩)) rfl (by kernel_rfl) (by kernel_rfl) (by kernel_rfl) (fun _ _ _ h => h) (Or.inl ⟨by rfl, ?_⟩) hHeld ?_
              · intro ww hS
                try dsimp only at hS
                go_simp
                try with_reducible rfl
                try omega
              try simp only [Act.put, List.setIfInBounds_toArray, List.set_cons_zero, List.set_cons_succ]
              refine wpAnyH_take (i := 9) (oi := ⟨some 95, _, _, _, _, _⟩) (v := .int .i64 (hd : Int)) rfl (by kernel_rfl) (by kernel_rfl) (by kernel_rfl) (fun _ _ _ h => h) (Or.inl ⟨by rfl, ?_⟩) hHeld ?_
              · intro ww hS
                try dsimp only at hS
                have O_9 := ((hS)).at_ 0 9 rfl (v := .int .i64 (hd : Int)) (by show some (Value.int .i64 s.shard) = _; rw [hsd])
                have O_z9 := ((hS)).lt 0 rfl
                go_simp
                try with_reducible rfl
                try omega
              try simp only [Act.put, List.setIfInBounds_toArray, List.set_cons_zero, List.set_cons_succ]
              refine wpAnyH_take (i := 11) (oi := ⟨some 97, _, _, _, _, _⟩) (v := .pointer (some ⟨gH, 3, none⟩)) rfl (by kernel_rfl) (by kernel_rfl) (by kernel_rfl) (fun _ _ _ h => h) (Or.inl ⟨by rfl, ?_⟩) hHeld ?_
              · intro ww hS
                try dsimp only at hS
                go_simp
                try with_reducible rfl
                try omega
              try simp only [Act.put, List.setIfInBounds_toArray, List.set_cons_zero, List.set_cons_succ]
              refine wpAnyH_take (i := 12) (oi := ⟨some 98, _, _, _, _, _⟩) (v := .int .i64 (ns : Int)) rfl (by kernel_rfl) (by kernel_rfl) (by kernel_rfl) (fun _ _ _ h => h) (Or.inl ⟨by rfl, ?_⟩) hHeld ?_
              · intro ww hS
                try dsimp only at hS
                have H_3 := (hS).at_ 1 3 rfl (v := .int .i64 (ns : Int)) rfl
                have H_z := (hS).lt 1 rfl
                go_simp
                try with_reducible rfl
                try omega
              try simp only [Act.put, List.setIfInBounds_toArray, List.set_cons_zero, List.set_cons_succ]
              refine wpAnyH_ready (rs := [4]) (by kernel_rfl) (by simp) ?_
              refine AllReadyH.cons (o := ⟨some 90, _, _, _, _, _⟩) rfl (fun K0 hK => ?_) AllReadyH.nil
              go_simp
              refine ((hOf _).out).mono ?_
              rintro e w7 ⟨rfl, K'⟩
              replace L := L.over K'
              refine hK.out _ _ L (fun hHeld' => ?_)
              clear hHeld hK K0
              have hHeld := hHeld'
              clear hHeld'
              clear K'
              try simp only [Act.put, List.setIfInBounds_toArray, List.set_cons_zero, List.set_cons_succ]
              refine wpAnyH_take (i := 7) (oi := ⟨some 93, _, _, _, _, _⟩) (v := .int .i64 (s1 : Int)) rfl (by kernel_rfl) (by kernel_rfl) (by kernel_rfl) (fun _ _ _ h => h) (Or.inl ⟨by rfl, ?_⟩) hHeld ?_
              · intro ww hS
                try dsimp only at hS
                go_simp
                try with_reducible rfl
                try omega
              try simp only [Act.put, List.setIfInBounds_toArray, List.set_cons_zero, List.set_cons_succ]
              refine wpAnyH_take (i := 10) (oi := ⟨some 96, _, _, _, _, _⟩) (v := .int .i64 (s3 : Int)) rfl (by kernel_rfl) (by kernel_rfl) (by kernel_rfl) (fun _ _ _ h => h) (Or.inl ⟨by rfl, ?_⟩) hHeld ?_
              · intro ww hS
                try dsimp only at hS
                go_simp
                try with_reducible rfl
                try omega
              try simp only [Act.put, List.setIfInBounds_toArray, List.set_cons_zero, List.set_cons_succ]
              refine wpAnyH_ready (rs := [13]) (by kernel_rfl) (by simp) ?_
              refine AllReadyH.cons (o := ⟨some 99, _, _, _, _, _⟩) rfl (fun K0 hK => ?_) AllReadyH.nil
              go_simp
              refine ((hRe _).out).mono ?_
              rintro e w' ⟨rfl, rfl⟩
              refine hK.out _ _ L (fun hHeld' => ?_)
              clear hHeld hK K0
              have hHeld := hHeld'
              clear hHeld'
              try simp only [Act.put, List.setIfInBounds_toArray, List.set_cons_zero, List.set_cons_succ]
              refine wpAnyH_take (i := 14) (oi := ⟨some 16, _, _, _, _, _⟩) (v := .int .i64 (j : Int)) rfl (by kernel_rfl) (by kernel_rfl) (by kernel_rfl) (fun _ _ _ h => h) (Or.inl ⟨by rfl, ?_⟩) hHeld ?_
              · intro ww hS
                try dsimp only at hS
                go_simp
                try with_reducible rfl
                try omega
              try simp only [Act.put, List.setIfInBounds_toArray, List.set_cons_zero, List.set_cons_succ]
              refine wpAnyH_done (by kernel_rfl) ?_ _
              clear hHeld
              have O_10 := (L).at_ 0 10 rfl (v := .int .i64 (k : Int)) (by show some (Value.int .i64 s.sought) = _; rw [hso])
              have O_z10 := (L).lt 0 rfl
              have O_11 := (L).at_ 0 11 rfl (v := .int .i64 (i0 : Int)) (by show some (Value.int .i64 s.leaf) = _; rw [hlf])
              have O_z11 := (L).lt 0 rfl
              go_wp2_with fail
              clear O_10 O_z10 O_11 O_z11
              go_roundw
              case rel => exact ⟨i + 1, by omega, by go_num, L⟩
              case measure => simp [intOf]; omega
            simp only [hbT] at THt
            simp only [hbR] at THr
            clear hfi hbT hbR
            replace hkn := Lib.hid hkn
            clear hA1 hA2
            have j1 : decide (j < k) = false := by simp; omega
            have j2 : ((j : Int) == (k : Int)) = true := by simp; omega
            have j3 : decide (i < i0) = false := by simp; omega
            replace q1 := Lib.hid q1
            replace q2 := Lib.hid q2
            replace q3 := Lib.hid q3
            go_wp2_with fail
            refine ((TLv _).out).mono ?_
            rintro e w' ⟨rfl, rfl⟩
            go_wp2_with fail
            refine ((TT1 _).out).mono ?_
            rintro e w' ⟨rfl, rfl⟩
            go_wp2_with fail
            refine ((TR1 _).out).mono ?_
            rintro e w' ⟨rfl, rfl⟩
            have X1 := (L.K.cell (p := ⟨bb, oo + cl, none⟩) hbb).trans XT
            go_wp2_with fail
            refine ((THt _).out).mono ?_
            rintro e w' ⟨rfl, rfl⟩
            clear X1
            have X2 := (L.K.cell (p := ⟨bb, oo + rc, none⟩) hbb).trans XR
            go_wp2_with fail
            refine ((THr _).out).mono ?_
            rintro e w' ⟨rfl, rfl⟩
            clear X2
            go_upto_region 17 with (fail)
            replace L := L.drew
            refine wp_region_held_drew (S := fun w' => Loc w w' [(gO, 41, opv h s), (gH, 27, #[.int .u32 (a : Int), .int .i64 p, .slice A n c, .int .i64 (ns : Int), .int .i64 wo, .int .i64 qu, .int .i64 tr])] []) (by kernel_rfl) L (fun hHeld => ?_)
            generalize wr.drew = v6 at hHeld L ⊢
            refine wpAnyH_take (i := 0) (oi := ⟨some 86, _, _, _, _, _⟩) (v := .int .i64 (M : Int)) rfl (by kernel_rfl) (by kernel_rfl) (by kernel_rfl) (fun _ _ _ h => h) (Or.inl ⟨by rfl, ?_⟩) hHeld ?_
            · intro ww hS
              try dsimp only at hS
              go_simp
              try with_reducible rfl
              try omega
            try simp only [Act.put, List.setIfInBounds_toArray, List.set_cons_zero, List.set_cons_succ]
            refine wpAnyH_take (i := 1) (oi := ⟨some 87, _, _, _, _, _⟩) (v := .pointer (some ⟨gH, 3, none⟩)) rfl (by kernel_rfl) (by kernel_rfl) (by kernel_rfl) (fun _ _ _ h => h) (Or.inl ⟨by rfl, ?_⟩) hHeld ?_
            · intro ww hS
              try dsimp only at hS
              go_simp
              try with_reducible rfl
              try omega
            try simp only [Act.put, List.setIfInBounds_toArray, List.set_cons_zero, List.set_cons_succ]
            refine wpAnyH_take (i := 2) (oi := ⟨some 88, _, _, _, _, _⟩) (v := .int .i64 (ns : Int)) rfl (by kernel_rfl) (by kernel_rfl) (by kernel_rfl) (fun _ _ _ h => h) (Or.inl ⟨by rfl, ?_⟩) hHeld ?_
            · intro ww hS
              try dsimp only at hS
              have H_3 := (hS).at_ 1 3 rfl (v := .int .i64 (ns : Int)) rfl
              have H_z := (hS).lt 1 rfl
              go_simp
              try with_reducible rfl
              try omega
            try simp only [Act.put, List.setIfInBounds_toArray, List.set_cons_zero, List.set_cons_succ]
            refine wpAnyH_take (i := 3) (oi := ⟨some 89, _, _, _, _, _⟩) (v := .int .i64 (i : Int)) rfl (by kernel_rfl) (by kernel_rfl) (by kernel_rfl) (fun _ _ _ h => h) (Or.inl ⟨by rfl, ?_⟩) hHeld ?_
            · intro ww hS
              try dsimp only at hS
              go_simp
              try with_reducible rfl
              try omega
            try simp only [Act.put, List.setIfInBounds_toArray, List.set_cons_zero, List.set_cons_succ]
            refine wpAnyH_take (i := 5) (oi := ⟨some 91, _, _, _, _, _⟩) (v := .pointer (some ⟨gH, 3, none⟩)) rfl (by kernel_rfl) (by kernel_rfl) (by kernel_rfl) (fun _ _ _ h => h) (Or.inl ⟨by rfl, ?_⟩) hHeld ?_
            · intro ww hS
              try dsimp only at hS
              go_simp
              try with_reducible rfl
              try omega
            try simp only [Act.put, List.setIfInBounds_toArray, List.set_cons_zero, List.set_cons_succ]
            refine wpAnyH_take (i := 6) (oi := ⟨some 92, _, _, _, _, _⟩) (v := .int .i64 (ns : Int)) rfl (by kernel_rfl) (by kernel_rfl) (by kernel_rfl) (fun _ _ _ h => h) (Or.inl ⟨by rfl, ?_⟩) hHeld ?_
            · intro ww hS
              try dsimp only at hS
              have H_3 := (hS).at_ 1 3 rfl (v := .int .i64 (ns : Int)) rfl
              have H_z := (hS).lt 1 rfl
              go_simp
              try with_reducible rfl
              try omega
            try simp only [Act.put, List.setIfInBounds_toArray, List.set_cons_zero, List.set_cons_succ]
            refine wpAnyH_take (i := 8) (oi := ⟨some 94, _, _, _, _, _⟩) (v := .pointer (some ⟨gO, 9, none⟩)) rfl (by kernel_rfl) (by kernel_rfl) (by kernel_rfl) (fun _ _ _ h => h) (Or.inl ⟨by rfl, ?_⟩) hHeld ?_
            · intro ww hS
              try dsimp only at hS
              go_simp
              try with_reducible rfl
              try omega
            try simp only [Act.put, List.setIfInBounds_toArray, List.set_cons_zero, List.set_cons_succ]
            refine wpAnyH_take (i := 9) (oi := ⟨some 95, _, _, _, _, _⟩) (v := .int .i64 (hd : Int)) rfl (by kernel_rfl) (by kernel_rfl) (by kernel_rfl) (fun _ _ _ h => h) (Or.inl ⟨by rfl, ?_⟩) hHeld ?_
            · intro ww hS
              try dsimp only at hS
              have O_9 := ((hS)).at_ 0 9 rfl (v := .int .i64 (hd : Int)) (by show some (Value.int .i64 s.shard) = _; rw [hsd])
              have O_z9 := ((hS)).lt 0 rfl
              go_simp
              try with_reducible rfl
              try omega
            try simp only [Act.put, List.setIfInBounds_toArray, List.set_cons_zero, List.set_cons_succ]
            refine wpAnyH_take (i := 11) (oi := ⟨some 97, _, _, _, _, _⟩) (v := .pointer (some ⟨gH, 3, none⟩)) rfl (by kernel_rfl) (by kernel_rfl) (by kernel_rfl) (fun _ _ _ h => h) (Or.inl ⟨by rfl, ?_⟩) hHeld ?_
            · intro ww hS
              try dsimp only at hS
              go_simp
              try with_reducible rfl
              try omega
            try simp only [Act.put, List.setIfInBounds_toArray, List.set_cons_zero, List.set_cons_succ]
            refine wpAnyH_take (i := 12) (oi := ⟨some 98, _, _, _, _, _⟩) (v := .int .i64 (ns : Int)) rfl (by kernel_rfl) (by kernel_rfl) (by kernel_rfl) (fun _ _ _ h => h) (Or.inl ⟨by rfl, ?_⟩) hHeld ?_
            · intro ww hS
              try dsimp only at hS
              have H_3 := (hS).at_ 1 3 rfl (v := .int .i64 (ns : Int)) rfl
              have H_z := (hS).lt 1 rfl
              go_simp
              try with_reducible rfl
              try omega
            try simp only [Act.put, List.setIfInBounds_toArray, List.set_cons_zero, List.set_cons_succ]
            refine wpAnyH_ready (rs := [4]) (by kernel_rfl) (by simp) ?_
            refine AllReadyH.cons (o := ⟨some 90, _, _, _, _, _⟩) rfl (fun K0 hK => ?_) AllReadyH.nil
            go_simp
            refine ((hOf _).out).mono ?_
            rintro e w7 ⟨rfl, K'⟩
            replace L := L.over K'
            refine hK.out _ _ L (fun hHeld' => ?_)
            clear hHeld hK K0
            have hHeld := hHeld'
            clear hHeld'
            clear K'
            try simp only [Act.put, List.setIfInBounds_toArray, List.set_cons_zero, List.set_cons_succ]
            refine wpAnyH_take (i := 7) (oi := ⟨some 93, _, _, _, _, _⟩) (v := .int .i64 (s1 : Int)) rfl (by kernel_rfl) (by kernel_rfl) (by kernel_rfl) (fun _ _ _ h => h) (Or.inl ⟨by rfl, ?_⟩) hHeld ?_
            · intro ww hS
              try dsimp only at hS
              go_simp
              try with_reducible rfl
              try omega
            try simp only [Act.put, List.setIfInBounds_toArray, List.set_cons_zero, List.set_cons_succ]
            refine wpAnyH_take (i := 10) (oi := ⟨some 96, _, _, _, _, _⟩) (v := .int .i64 (s3 : Int)) rfl (by kernel_rfl) (by kernel_rfl) (by kernel_rfl) (fun _ _ _ h => h) (Or.inl ⟨by rfl, ?_⟩) hHeld ?_
            · intro ww hS
              try dsimp only at hS
              go_simp
              try with_reducible rfl
              try omega
            try simp only [Act.put, List.setIfInBounds_toArray, List.set_cons_zero, List.set_cons_succ]
            refine wpAnyH_ready (rs := [13]) (by kernel_rfl) (by simp) ?_
            refine AllReadyH.cons (o := ⟨some 99, _, _, _, _, _⟩) rfl (fun K0 hK => ?_) AllReadyH.nil
            go_simp
            refine ((hRe _).out).mono ?_
            rintro e w' ⟨rfl, rfl⟩
            refine hK.out _ _ L (fun hHeld' => ?_)
            clear hHeld hK K0
            have hHeld := hHeld'
            clear hHeld'
            try simp only [Act.put, List.setIfInBounds_toArray, List.set_cons_zero, List.set_cons_succ]
            refine wpAnyH_take (i := 14) (oi := ⟨some 16, _, _, _, _, _⟩) (v := .int .i64 (j : Int)) rfl (by kernel_rfl) (by kernel_rfl) (by kernel_rfl) (fun _ _ _ h => h) (Or.inl ⟨by rfl, ?_⟩) hHeld ?_
            · intro ww hS
              try dsimp only at hS
              go_simp
              try with_reducible rfl
              try omega
            try simp only [Act.put, List.setIfInBounds_toArray, List.set_cons_zero, List.set_cons_succ]
            refine wpAnyH_done (by kernel_rfl) ?_ _
            clear hHeld
            have O_10 := (L).at_ 0 10 rfl (v := .int .i64 (k : Int)) (by show some (Value.int .i64 s.sought) = _; rw [hso])
            have O_z10 := (L).lt 0 rfl
            have O_11 := (L).at_ 0 11 rfl (v := .int .i64 (i0 : Int)) (by show some (Value.int .i64 s.leaf) = _; rw [hlf])
            have O_z11 := (L).lt 0 rfl
            go_wp2_with fail
            clear O_10 O_z10 O_11 O_z11
            go_roundw
            case rel => exact ⟨i + 1, by omega, by go_num, L⟩
            case measure => simp [intOf]; omega
          have hff : hf M ys i = false := by rw [hfi, hbT, hbR]; rfl
          have q1 : ¬ j < k := fun h => by have := hA1.out h; rw [hff] at this; cases this
          have hq3 : j = k → ¬ i < i0 := fun h h2 => by have := hA2.out h h2; rw [hff] at this; cases this
          clear hff
          by_cases q2 : j = k
          rotate_left
          · simp only [hbT] at THt
            simp only [hbR] at THr
            clear hfi hbT hbR
            replace hkn := Lib.hid hkn
            clear hA1 hA2
            have j1 : decide (j < k) = false := by simp; omega
            have j2 : ((j : Int) == (k : Int)) = false := by simp; omega
            replace q1 := Lib.hid q1
            replace q2 := Lib.hid q2
            go_wp2_with fail
            refine ((TLv _).out).mono ?_
            rintro e w' ⟨rfl, rfl⟩
            go_wp2_with fail
            refine ((TT1 _).out).mono ?_
            rintro e w' ⟨rfl, rfl⟩
            go_wp2_with fail
            refine ((TR1 _).out).mono ?_
            rintro e w' ⟨rfl, rfl⟩
            have X1 := (L.K.cell (p := ⟨bb, oo + cl, none⟩) hbb).trans XT
            go_wp2_with fail
            refine ((THt _).out).mono ?_
            rintro e w' ⟨rfl, rfl⟩
            clear X1
            have X2 := (L.K.cell (p := ⟨bb, oo + rc, none⟩) hbb).trans XR
            go_wp2_with fail
            refine ((THr _).out).mono ?_
            rintro e w' ⟨rfl, rfl⟩
            clear X2
            go_upto_region 17 with (fail)
            replace L := L.drew
            refine wp_region_held_drew (S := fun w' => Loc w w' [(gO, 41, opv h s), (gH, 27, #[.int .u32 (a : Int), .int .i64 p, .slice A n c, .int .i64 (ns : Int), .int .i64 wo, .int .i64 qu, .int .i64 tr])] []) (by kernel_rfl) L (fun hHeld => ?_)
            generalize wr.drew = v6 at hHeld L ⊢
            refine wpAnyH_take (i := 0) (oi := ⟨some 86, _, _, _, _, _⟩) (v := .int .i64 (M : Int)) rfl (by kernel_rfl) (by kernel_rfl) (by kernel_rfl) (fun _ _ _ h => h) (Or.inl ⟨by rfl, ?_⟩) hHeld ?_
            · intro ww hS
              try dsimp only at hS
              go_simp
              try with_reducible rfl
              try omega
            try simp only [Act.put, List.setIfInBounds_toArray, List.set_cons_zero, List.set_cons_succ]
            refine wpAnyH_take (i := 1) (oi := ⟨some 87, _, _, _, _, _⟩) (v := .pointer (some ⟨gH, 3, none⟩)) rfl (by kernel_rfl) (by kernel_rfl) (by kernel_rfl) (fun _ _ _ h => h) (Or.inl ⟨by rfl, ?_⟩) hHeld ?_
            · intro ww hS
              try dsimp only at hS
              go_simp
              try with_reducible rfl
              try omega
            try simp only [Act.put, List.setIfInBounds_toArray, List.set_cons_zero, List.set_cons_succ]
            refine wpAnyH_take (i := 2) (oi := ⟨some 88, _, _, _, _, _⟩) (v := .int .i64 (ns : Int)) rfl (by kernel_rfl) (by kernel_rfl) (by kernel_rfl) (fun _ _ _ h => h) (Or.inl ⟨by rfl, ?_⟩) hHeld ?_
            · intro ww hS
              try dsimp only at hS
              have H_3 := (hS).at_ 1 3 rfl (v := .int .i64 (ns : Int)) rfl
              have H_z := (hS).lt 1 rfl
              go_simp
              try with_reducible rfl
              try omega
            try simp only [Act.put, List.setIfInBounds_toArray, List.set_cons_zero, List.set_cons_succ]
            refine wpAnyH_take (i := 3) (oi := ⟨some 89, _, _, _, _, _⟩) (v := .int .i64 (i : Int)) rfl (by kernel_rfl) (by kernel_rfl) (by kernel_rfl) (fun _ _ _ h => h) (Or.inl ⟨by rfl, ?_⟩) hHeld ?_
            · intro ww hS
              try dsimp only at hS
              go_simp
              try with_reducible rfl
              try omega
            try simp only [Act.put, List.setIfInBounds_toArray, List.set_cons_zero, List.set_cons_succ]
            refine wpAnyH_take (i := 5) (oi := ⟨some 91, _, _, _, _, _⟩) (v := .pointer (some ⟨gH, 3, none⟩)) rfl (by kernel_rfl) (by kernel_rfl) (by kernel_rfl) (fun _ _ _ h => h) (Or.inl ⟨by rfl, ?_⟩) hHeld ?_
            · intro ww hS
              try dsimp only at hS
              go_simp
              try with_reducible rfl
              try omega
            try simp only [Act.put, List.setIfInBounds_toArray, List.set_cons_zero, List.set_cons_succ]
            refine wpAnyH_take (i := 6) (oi := ⟨some 92, _, _, _, _, _⟩) (v := .int .i64 (ns : Int)) rfl (by kernel_rfl) (by kernel_rfl) (by kernel_rfl) (fun _ _ _ h => h) (Or.inl ⟨by rfl, ?_⟩) hHeld ?_
            · intro ww hS
              try dsimp only at hS
              have H_3 := (hS).at_ 1 3 rfl (v := .int .i64 (ns : Int)) rfl
              have H_z := (hS).lt 1 rfl
              go_simp
              try with_reducible rfl
              try omega
            try simp only [Act.put, List.setIfInBounds_toArray, List.set_cons_zero, List.set_cons_succ]
            refine wpAnyH_take (i := 8) (oi := ⟨some 94, _, _, _, _, _⟩) (v := .pointer (some ⟨gO, 9, none⟩)) rfl (by kernel_rfl) (by kernel_rfl) (by kernel_rfl) (fun _ _ _ h => h) (Or.inl ⟨by rfl, ?_⟩) hHeld ?_
            · intro ww hS
              try dsimp only at hS
              go_simp
              try with_reducible rfl
              try omega
            try simp only [Act.put, List.setIfInBounds_toArray, List.set_cons_zero, List.set_cons_succ]
            refine wpAnyH_take (i := 9) (oi := ⟨some 95, _, _, _, _, _⟩) (v := .int .i64 (hd : Int)) rfl (by kernel_rfl) (by kernel_rfl) (by kernel_rfl) (fun _ _ _ h => h) (Or.inl ⟨by rfl, ?_⟩) hHeld ?_
            · intro ww hS
              try dsimp only at hS
              have O_9 := ((hS)).at_ 0 9 rfl (v := .int .i64 (hd : Int)) (by show some (Value.int .i64 s.shard) = _; rw [hsd])
              have O_z9 := ((hS)).lt 0 rfl
              go_simp
              try with_reducible rfl
              try omega
            try simp only [Act.put, List.setIfInBounds_toArray, List.set_cons_zero, List.set_cons_succ]
            refine wpAnyH_take (i := 11) (oi := ⟨some 97, _, _, _, _, _⟩) (v := .pointer (some ⟨gH, 3, none⟩)) rfl (by kernel_rfl) (by kernel_rfl) (by kernel_rfl) (fun _ _ _ h => h) (Or.inl ⟨by rfl, ?_⟩) hHeld ?_
            · intro ww hS
              try dsimp only at hS
              go_simp
              try with_reducible rfl
              try omega
            try simp only [Act.put, List.setIfInBounds_toArray, List.set_cons_zero, List.set_cons_succ]
            refine wpAnyH_take (i := 12) (oi := ⟨some 98, _, _, _, _, _⟩) (v := .int .i64 (ns : Int)) rfl (by kernel_rfl) (by kernel_rfl) (by kernel_rfl) (fun _ _ _ h => h) (Or.inl ⟨by rfl, ?_⟩) hHeld ?_
            · intro ww hS
              try dsimp only at hS
              have H_3 := (hS).at_ 1 3 rfl (v := .int .i64 (ns : Int)) rfl
              have H_z := (hS).lt 1 rfl
              go_simp
              try with_reducible rfl
              try omega
            try simp only [Act.put, List.setIfInBounds_toArray, List.set_cons_zero, List.set_cons_succ]
            refine wpAnyH_ready (rs := [4]) (by kernel_rfl) (by simp) ?_
            refine AllReadyH.cons (o := ⟨some 90, _, _, _, _, _⟩) rfl (fun K0 hK => ?_) AllReadyH.nil
            go_simp
            refine ((hOf _).out).mono ?_
            rintro e w7 ⟨rfl, K'⟩
            replace L := L.over K'
            refine hK.out _ _ L (fun hHeld' => ?_)
            clear hHeld hK K0
            have hHeld := hHeld'
            clear hHeld'
            clear K'
            try simp only [Act.put, List.setIfInBounds_toArray, List.set_cons_zero, List.set_cons_succ]
            refine wpAnyH_take (i := 7) (oi := ⟨some 93, _, _, _, _, _⟩) (v := .int .i64 (s1 : Int)) rfl (by kernel_rfl) (by kernel_rfl) (by kernel_rfl) (fun _ _ _ h => h) (Or.inl ⟨by rfl, ?_⟩) hHeld ?_
            · intro ww hS
              try dsimp only at hS
              go_simp
              try with_reducible rfl
              try omega
            try simp only [Act.put, List.setIfInBounds_toArray, List.set_cons_zero, List.set_cons_succ]
            refine wpAnyH_take (i := 10) (oi := ⟨some 96, _, _, _, _, _⟩) (v := .int .i64 (s3 : Int)) rfl (by kernel_rfl) (by kernel_rfl) (by kernel_rfl) (fun _ _ _ h => h) (Or.inl ⟨by rfl, ?_⟩) hHeld ?_
            · intro ww hS
              try dsimp only at hS
              go_simp
              try with_reducible rfl
              try omega
            try simp only [Act.put, List.setIfInBounds_toArray, List.set_cons_zero, List.set_cons_succ]
            refine wpAnyH_ready (rs := [13]) (by kernel_rfl) (by simp) ?_
            refine AllReadyH.cons (o := ⟨some 99, _, _, _, _, _⟩) rfl (fun K0 hK => ?_) AllReadyH.nil
            go_simp
            refine ((hRe _).out).mono ?_
            rintro e w' ⟨rfl, rfl⟩
            refine hK.out _ _ L (fun hHeld' => ?_)
            clear hHeld hK K0
            have hHeld := hHeld'
            clear hHeld'
            try simp only [Act.put, List.setIfInBounds_toArray, List.set_cons_zero, List.set_cons_succ]
            refine wpAnyH_take (i := 14) (oi := ⟨some 16, _, _, _, _, _⟩) (v := .int .i64 (j : Int)) rfl (by kernel_rfl) (by kernel_rfl) (by kernel_rfl) (fun _ _ _ h => h) (Or.inl ⟨by rfl, ?_⟩) hHeld ?_
            · intro ww hS
              try dsimp only at hS
              go_simp
              try with_reducible rfl
              try omega
            try simp only [Act.put, List.setIfInBounds_toArray, List.set_cons_zero, List.set_cons_succ]
            refine wpAnyH_done (by kernel_rfl) ?_ _
            clear hHeld
            have O_10 := (L).at_ 0 10 rfl (v := .int .i64 (k : Int)) (by show some (Value.int .i64 s.sought) = _; rw [hso])
            have O_z10 := (L).lt 0 rfl
            go_wp2_with fail
            clear O_10 O_z10
            go_roundw
            case rel => exact ⟨i + 1, by omega, by go_num, L⟩
            case measure => simp [intOf]; omega
          have q3 := hq3 q2
          clear hq3
          simp only [hbT] at THt
          simp only [hbR] at THr
          clear hfi hbT hbR
          replace hkn := Lib.hid hkn
          clear hA1 hA2
          have j1 : decide (j < k) = false := by simp; omega
          have j2 : ((j : Int) == (k : Int)) = true := by simp; omega
          have j3 : decide (i < i0) = false := by simp; omega
          replace q1 := Lib.hid q1
          replace q2 := Lib.hid q2
          replace q3 := Lib.hid q3
          go_wp2_with fail
          refine ((TLv _).out).mono ?_
          rintro e w' ⟨rfl, rfl⟩
          go_wp2_with fail
          refine ((TT1 _).out).mono ?_
          rintro e w' ⟨rfl, rfl⟩
          go_wp2_with fail
          refine ((TR1 _).out).mono ?_
          rintro e w' ⟨rfl, rfl⟩
          have X1 := (L.K.cell (p := ⟨bb, oo + cl, none⟩) hbb).trans XT
          go_wp2_with fail
          refine ((THt _).out).mono ?_
          rintro e w' ⟨rfl, rfl⟩
          clear X1
          have X2 := (L.K.cell (p := ⟨bb, oo + rc, none⟩) hbb).trans XR
          go_wp2_with fail
          refine ((THr _).out).mono ?_
          rintro e w' ⟨rfl, rfl⟩
          clear X2
          go_upto_region 17 with (fail)
          replace L := L.drew
          refine wp_region_held_drew (S := fun w' => Loc w w' [(gO, 41, opv h s), (gH, 27, #[.int .u32 (a : Int), .int .i64 p, .slice A n c, .int .i64 (ns : Int), .int .i64 wo, .int .i64 qu, .int .i64 tr])] []) (by kernel_rfl) L (fun hHeld => ?_)
          generalize wr.drew = v6 at hHeld L ⊢
          refine wpAnyH_take (i := 0) (oi := ⟨some 86, _, _, _, _, _⟩) (v := .int .i64 (M : Int)) rfl (by kernel_rfl) (by kernel_rfl) (by kernel_rfl) (fun _ _ _ h => h) (Or.inl ⟨by rfl, ?_⟩) hHeld ?_
          · intro ww hS
            try dsimp only at hS
            go_simp
            try with_reducible rfl
            try omega
          try simp only [Act.put, List.setIfInBounds_toArray, List.set_cons_zero, List.set_cons_succ]
          refine wpAnyH_take (i := 1) (oi := ⟨some 87, _, _, _, _, _⟩) (v := .pointer (some ⟨gH, 3, none⟩)) rfl (by kernel_rfl) (by kernel_rfl) (by kernel_rfl) (fun _ _ _ h => h) (Or.inl ⟨by rfl, ?_⟩) hHeld ?_
          · intro ww hS
            try dsimp only at hS
            go_simp
            try with_reducible rfl
            try omega
          try simp only [Act.put, List.setIfInBounds_toArray, List.set_cons_zero, List.set_cons_succ]
          refine wpAnyH_take (i := 2) (oi := ⟨some 88, _, _, _, _, _⟩) (v := .int .i64 (ns : Int)) rfl (by kernel_rfl) (by kernel_rfl) (by kernel_rfl) (fun _ _ _ h => h) (Or.inl ⟨by rfl, ?_⟩) hHeld ?_
          · intro ww hS
            try dsimp only at hS
            have H_3 := (hS).at_ 1 3 rfl (v := .int .i64 (ns : Int)) rfl
            have H_z := (hS).lt 1 rfl
            go_simp
            try with_reducible rfl
            try omega
          try simp only [Act.put, List.setIfInBounds_toArray, List.set_cons_zero, List.set_cons_succ]
          refine wpAnyH_take (i := 3) (oi := ⟨some 89, _, _, _, _, _⟩) (v := .int .i64 (i : Int)) rfl (by kernel_rfl) (by kernel_rfl) (by kernel_rfl) (fun _ _ _ h => h) (Or.inl ⟨by rfl, ?_⟩) hHeld ?_
          · intro ww hS
            try dsimp only at hS
            go_simp
            try with_reducible rfl
            try omega
          try simp only [Act.put, List.setIfInBounds_toArray, List.set_cons_zero, List.set_cons_succ]
          refine wpAnyH_take (i := 5) (oi := ⟨some 91, _, _, _, _, _⟩) (v := .pointer (some ⟨gH, 3, none⟩)) rfl (by kernel_rfl) (by kernel_rfl) (by kernel_rfl) (fun _ _ _ h => h) (Or.inl ⟨by rfl, ?_⟩) hHeld ?_
          · intro ww hS
            try dsimp only at hS
            go_simp
            try with_reducible rfl
            try omega
          try simp only [Act.put, List.setIfInBounds_toArray, List.set_cons_zero, List.set_cons_succ]
          refine wpAnyH_take (i := 6) (oi := ⟨some 92, _, _, _, _, _⟩) (v := .int .i64 (ns : Int)) rfl (by kernel_rfl) (by kernel_rfl) (by kernel_rfl) (fun _ _ _ h => h) (Or.inl ⟨by rfl, ?_⟩) hHeld ?_
          · intro ww hS
            try dsimp only at hS
            have H_3 := (hS).at_ 1 3 rfl (v := .int .i64 (ns : Int)) rfl
            have H_z := (hS).lt 1 rfl
            go_simp
            try with_reducible rfl
            try omega
          try simp only [Act.put, List.setIfInBounds_toArray, List.set_cons_zero, List.set_cons_succ]
          refine wpAnyH_take (i := 8) (oi := ⟨some 94, _, _, _, _, _⟩) (v := .pointer (some ⟨gO, 9, none⟩)) rfl (by kernel_rfl) (by kernel_rfl) (by kernel_rfl) (fun _ _ _ h => h) (Or.inl ⟨by rfl, ?_⟩) hHeld ?_
          · intro ww hS
            try dsimp only at hS
            go_simp
            try with_reducible rfl
            try omega
          try simp only [Act.put, List.setIfInBounds_toArray, List.set_cons_zero, List.set_cons_succ]
          refine wpAnyH_take (i := 9) (oi := ⟨some 95, _, _, _, _, _⟩) (v := .int .i64 (hd : Int)) rfl (by kernel_rfl) (by kernel_rfl) (by kernel_rfl) (fun _ _ _ h => h) (Or.inl ⟨by rfl, ?_⟩) hHeld ?_
          · intro ww hS
            try dsimp only at hS
            have O_9 := ((hS)).at_ 0 9 rfl (v := .int .i64 (hd : Int)) (by show some (Value.int .i64 s.shard) = _; rw [hsd])
            have O_z9 := ((hS)).lt 0 rfl
            go_simp
            try with_reducible rfl
            try omega
          try simp only [Act.put, List.setIfInBounds_toArray, List.set_cons_zero, List.set_cons_succ]
          refine wpAnyH_take (i := 11) (oi := ⟨some 97, _, _, _, _, _⟩) (v := .pointer (some ⟨gH, 3, none⟩)) rfl (by kernel_rfl) (by kernel_rfl) (by kernel_rfl) (fun _ _ _ h => h) (Or.inl ⟨by rfl, ?_⟩) hHeld ?_
          · intro ww hS
            try dsimp only at hS
            go_simp
            try with_reducible rfl
            try omega
          try simp only [Act.put, List.setIfInBounds_toArray, List.set_cons_zero, List.set_cons_succ]
          refine wpAnyH_take (i := 12) (oi := ⟨some 98, _, _, _, _, _⟩) (v := .int .i64 (ns : Int)) rfl (by kernel_rfl) (by kernel_rfl) (by kernel_rfl) (fun _ _ _ h => h) (Or.inl ⟨by rfl, ?_⟩) hHeld ?_
          · intro ww hS
            try dsimp only at hS
            have H_3 := (hS).at_ 1 3 rfl (v := .int .i64 (ns : Int)) rfl
            have H_z := (hS).lt 1 rfl
            go_simp
            try with_reducible rfl
            try omega
          try simp only [Act.put, List.setIfInBounds_toArray, List.set_cons_zero, List.set_cons_succ]
          refine wpAnyH_ready (rs := [4]) (by kernel_rfl) (by simp) ?_
          refine AllReadyH.cons (o := ⟨some 90, _, _, _, _, _⟩) rfl (fun K0 hK => ?_) AllReadyH.nil
          go_simp
          refine ((hOf _).out).mono ?_
          rintro e w7 ⟨rfl, K'⟩
          replace L := L.over K'
          refine hK.out _ _ L (fun hHeld' => ?_)
          clear hHeld hK K0
          have hHeld := hHeld'
          clear hHeld'
          clear K'
          try simp only [Act.put, List.setIfInBounds_toArray, List.set_cons_zero, List.set_cons_succ]
          refine wpAnyH_take (i := 7) (oi := ⟨some 93, _, _, _, _, _⟩) (v := .int .i64 (s1 : Int)) rfl (by kernel_rfl) (by kernel_rfl) (by kernel_rfl) (fun _ _ _ h => h) (Or.inl ⟨by rfl, ?_⟩) hHeld ?_
          · intro ww hS
            try dsimp only at hS
            go_simp
            try with_reducible rfl
            try omega
          try simp only [Act.put, List.setIfInBounds_toArray, List.set_cons_zero, List.set_cons_succ]
          refine wpAnyH_take (i := 10) (oi := ⟨some 96, _, _, _, _, _⟩) (v := .int .i64 (s3 : Int)) rfl (by kernel_rfl) (by kernel_rfl) (by kernel_rfl) (fun _ _ _ h => h) (Or.inl ⟨by rfl, ?_⟩) hHeld ?_
          · intro ww hS
            try dsimp only at hS
            go_simp
            try with_reducible rfl
            try omega
          try simp only [Act.put, List.setIfInBounds_toArray, List.set_cons_zero, List.set_cons_succ]
          refine wpAnyH_ready (rs := [13]) (by kernel_rfl) (by simp) ?_
          refine AllReadyH.cons (o := ⟨some 99, _, _, _, _, _⟩) rfl (fun K0 hK => ?_) AllReadyH.nil
          go_simp
          refine ((hRe _).out).mono ?_
          rintro e w' ⟨rfl, rfl⟩
          refine hK.out _ _ L (fun hHeld' => ?_)
          clear hHeld hK K0
          have hHeld := hHeld'
          clear hHeld'
          try simp only [Act.put, List.setIfInBounds_toArray, List.set_cons_zero, List.set_cons_succ]
          refine wpAnyH_take (i := 14) (oi := ⟨some 16, _, _, _, _, _⟩) (v := .int .i64 (j : Int)) rfl (by kernel_rfl) (by kernel_rfl) (by kernel_rfl) (fun _ _ _ h => h) (Or.inl ⟨by rfl, ?_⟩) hHeld ?_
          · intro ww hS
            try dsimp only at hS
            go_simp
            try with_reducible rfl
            try omega
          try simp only [Act.put, List.setIfInBounds_toArray, List.set_cons_zero, List.set_cons_succ]
          refine wpAnyH_done (by kernel_rfl) ?_ _
          clear hHeld
          have O_10 := (L).at_ 0 10 rfl (v := .int .i64 (k : Int)) (by show some (Value.int .i64 s.sought) = _; rw [hso])
          have O_z10 := (L).lt 0 rfl
          have O_11 := (L).at_ 0 11 rfl (v := .int .i64 (i0 : Int)) (by show some (Value.int .i64 s.leaf) = _; rw [hlf])
          have O_z11 := (L).lt 0 rfl
          go_wp2_with fail
          clear O_10 O_z10 O_11 O_z11
          go_roundw
          case rel => exact ⟨i + 1, by omega, by go_num, L⟩
          case measure => simp [intOf]; omega
        · have hiL : i = LV := by omega
          subst hiL
          clear hi TTo TRo
          have hno : ¬ (i < i) := by omega
          go_wp2_with fail
          refine ((TLv _).out).mono ?_
          rintro e w' ⟨rfl, rfl⟩
          go_wp2
          go_ret
          exact ⟨rfl, L.K⟩
    · clear TS
      have hp1 : (s.phase == 1) = false := by rw [hS.ph]; rfl
      have hp2 : (s.phase != 2) = true := by rw [hS.ph]; rfl
      have hp6 : (s.phase == 6) = true := by rw [hS.ph]; rfl
      clear hS
      have O_8 := L.at_ 0 8 rfl (v := .int .i64 s.phase) rfl
      have O_z := L.lt 0 rfl
      go_wp2_with fail
      clear O_8 O_z
      go_ret
      exact ⟨rfl, L.K⟩
end
theorem walk (a p : Int) (A : Option Addr) (n c : Nat) (z : List Int) (sh wo qu tr : Int) (B : Option Addr) (m d : Nat) (zb : List Int) (x : Int) (w : World) (wa : (Lit.int .u32 a).wf = true) (wr : IsRow .i64 w A n c z) (wb : IsRow .u64 w B m d zb) (wx : (Lit.int .u8 x).wf = true) :
    Calls Try.prog 4 #[.agg #[.int .u32 a, .int .i64 p, .slice A n c, .int .i64 sh, .int .i64 wo, .int .i64 qu, .int .i64 tr], .slice B m d, .int .u8 x] w fun e w' => e = .returned (.bool true) ∧ Below w.heap.size w w' := by
  obtain ⟨a, rfl, ha⟩ := wf_u32 wa
  obtain ⟨zs, h0, _⟩ := IS.of_row wr
  obtain ⟨ys, hU⟩ := US.of_row wb
  obtain ⟨X, rfl, hX⟩ := wf_u8 wx
  exact main ha h0 hU hX
end Go.Proofs.Ytlaejiephpmniaa.seekNext
