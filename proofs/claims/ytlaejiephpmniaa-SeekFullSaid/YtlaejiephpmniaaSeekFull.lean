/-
  The walk of the law SeekFull: for every configuration, cells and home it answers true.
-/
import Derived.Test.YtlaejiephpmniaaSeekFits
import Derived.Test.YtlaejiephpmniaaCwLoc
namespace Go.Proofs.Ytlaejiephpmniaa.seekFull
open Go.RowKit
set_option linter.unusedVariables false
section
variable {w : World} {lo a m d X : Nat} {p sh wo qu tr : Int} {A B : Option Addr} {n c : Nat} {zs : List Int} {ys : List Nat}
set_option maxRecDepth 100000 in
set_option maxHeartbeats 4000000 in
theorem main (ha : a < 4294967296) (h0 : IS .i64 lo w A n c zs) (hU : US w B m d ys) (hX : X < 256) :
    Calls Try.prog 6 #[.agg #[.int .u32 (a : Int), .int .i64 p, .slice A n c, .int .i64 sh, .int .i64 wo, .int .i64 qu, .int .i64 tr], .slice B m d, .int .u8 (X : Int)] w (RetBo true w) := by
  go_enter Try.func6, Try.ntmps6
  go_upto_region 1 with (fail)
  have L := Loc.start w
  replace L := (L).alloc #[.int .u32 (a : Int), .int .i64 p, .slice A n c, .int .i64 sh, .int .i64 wo, .int .i64 qu, .int .i64 tr] 27
  try simp only [World.size_alloc] at L
  try dsimp only [nput] at L
  generalize (w).alloc (.cells #[.int .u32 (a : Int), .int .i64 p, .slice A n c, .int .i64 sh, .int .i64 wo, .int .i64 qu, .int .i64 tr] 27) = w1 at L ⊢
  generalize w.heap.size = gH at L ⊢
  go_wp2_with fail
  refine (awake_any _).mono ?_
  rintro e w2 ⟨rfl, K'⟩
  replace L := L.over K'
  go_wp2_with (refine wpList_load_want (by rfl) 27 (.tmp 3) rfl gH rfl _ _ (0, 0) _ (L.bk_ 0 rfl) Try.underlying27 rfl cf_sz ?_)
  refine (fitsS_any ha (h0.below L.K)).mono ?_
  rintro e w3 ⟨bo, rfl, hB, K'⟩
  replace L := L.over K'
  rcases bo with _ | _
  · clear hB
    go_wp2_with fail
    refine (awake_any _).mono ?_
    rintro e w92 ⟨rfl, K'⟩
    replace L := L.over K'
    go_wp2
    go_ret
    exact ⟨rfl, L.K⟩
  replace hB := hB rfl
  obtain ⟨hB, hsh1, hsh2⟩ := hB
  unfold FitP at hB
  obtain ⟨M, hMe⟩ : ∃ M, M = 2 ^ (32 - p.toNat) := ⟨_, rfl⟩
  rw [← hMe] at hB
  clear hMe
  obtain ⟨hM, hm4, hmm⟩ := hB
  obtain ⟨ns, hns⟩ : ∃ ns : Nat, sh = (ns : Int) := ⟨sh.toNat, by omega⟩
  subst hns
  have hn1 : 1 ≤ ns := by omega
  have hn2 : ns ≤ 64 := by omega
  clear hsh1 hsh2
  obtain ⟨hd, ehd1, ehd2, hhd⟩ := hd_of (X := X) hn1
  have hns0 : ¬ ((ns : Int) = 0) := by omega
  have hM4 := hM.most
  have hMp := hM.pos
  have hl3 := lv_le hM4
  have ht3 := tv_le hM4
  have hlv : lv M ≤ 128 ∧ 1 ≤ lv M ∧ tv M ≤ 2 ∧ 1 ≤ tv M := by unfold tv tq lv; omega
  have hm6 : m ≤ 65536 ∧ lv M + tv M < m := by omega
  obtain ⟨hm6, hmt⟩ := hm6
  replace hmm := Lib.hid hmm
  have hm0 : 0 < m := by omega
  obtain ⟨bb, oo, hBe, hbb, _⟩ := hU.get hm0
  subst hBe
  have hr64 := gt_lt hU.fit (lv M + tv M)
  have TS := fun w h s k t (hU : US w (some ⟨bb, oo, none⟩) m d ys) hA hE => Lib.hid (sstep_run (w := w) (h := h) (s := s) (k := k) (tt := t) (wo := wo) (qu := qu) (tr := tr) (A := A) (n := n) (c := c) (hd := hd) ha hM hn1 hn2 hhd hmt hU hA hE)
  have hmm2 := hmm.out
  have hl9 := hU.len
  obtain ⟨rc, hrc⟩ : ∃ rc, rc = lv M + tv M := ⟨_, rfl⟩
  have erc : (m : Int) - 1 = (rc : Int) := by omega
  have hrc2 : rc < m ∧ rc ≤ 65536 := by omega
  obtain ⟨fu, hfu⟩ : ∃ fu, fu = ys.set rc 18446744073709551615 := ⟨_, rfl⟩
  have hfr : gt fu (lv M + tv M) = 18446744073709551615 := by rw [hfu, ← hrc, gt_set (by omega), if_pos rfl]
  have TSet : ∀ w, US w (some ⟨bb, oo, none⟩) m d ys → Hid (Calls Try.prog 21 #[.slice (some ⟨bb, oo, none⟩) m d, .int .i64 (rc : Nat), .int .u64 18446744073709551615] w (RetSM m fu w)) := fun w U => by have := crset_new U (rc : Int) hm6 (show 18446744073709551615 < U64 by unfold U64; omega); rw [stI_nat, ← hfu] at this; exact this
  have TSF := fun w C e h s k t (hU : US w C m e fu) hA hE => Lib.hid (sstep_run (w := w) (h := h) (s := s) (k := k) (tt := t) (wo := wo) (qu := qu) (tr := tr) (A := A) (n := n) (c := c) (hd := hd) ha hM hn1 hn2 hhd hmt hU hA hE)
  have TLv := fun w => Lib.hid (rleaves_any M hM4 w)
  obtain ⟨LV, hLV⟩ : ∃ LV, LV = lv M := ⟨_, rfl⟩
  rw [← hLV] at TLv
  have hLm : LV ≤ m ∧ m = LV + (tv M + 1) := by omega
  replace hLV := Lib.hid hLV
  replace hfu := Lib.hid hfu
  replace hfr := Lib.hid hfr
  replace hrc := Lib.hid hrc
  replace hLm := Lib.hid hLm
  clear TS hmm2
  have H_0 := L.at_ 0 0 rfl (v := .int .u32 (a : Int)) rfl
  have H_1 := L.at_ 0 1 rfl (v := .int .i64 p) rfl
  have H_z := L.lt 0 rfl
  go_wp2_with fail
  refine (rmany_yes hM).mono ?_
  rintro e w4 ⟨rfl, K'⟩
  clear H_0 H_1 H_z
  replace L := L.over K'
  go_wp2_with fail
  refine ((TSet _ (hU.below L.K)).out).mono ?_
  rintro e w5 ⟨gF, dF, rfl, U, hgF, K'⟩
  have Lb := L.lts
  replace L := L.over K'
  replace L := L.us_av (fun i b e b' o e' => by injection e' with e'; injection e' with e1; have := Lb i b e; omega) U
  clear Lb
  try dsimp only [lF, List.cons_append, List.nil_append] at L
  clear U hgF
  have H_3 := L.at_ 0 3 rfl (v := .int .i64 (ns : Int)) rfl
  have H_z := L.lt 0 rfl
  go_upto_region 6 with (refine wpList_store_row rfl 41 (.tmp 9) (.tmp 39) rfl _ _ rfl (show _ = Value.agg (opv ⟨none, 0, 0, none, 0, 0, none, 0, 0, none, 0, 0⟩ ⟨0, 0, 0, 0, false, 1, (hd : Int), 0, 0, 0, 0, false, 0, 0, 0, 0⟩) from rfl) _ _ (Bk.new _ _ _) op_sz rfl (opv_one _ _) ?_)
  clear H_3 H_z
  try rw [World.setRow_alloc_new]
  replace L := (L).alloc (opv ⟨none, 0, 0, none, 0, 0, none, 0, 0, none, 0, 0⟩ ⟨0, 0, 0, 0, false, 1, (hd : Int), 0, 0, 0, 0, false, 0, 0, 0, 0⟩) 41
  try simp only [World.size_alloc] at L
  try dsimp only [nput] at L
  generalize (w5).alloc (.cells (opv ⟨none, 0, 0, none, 0, 0, none, 0, 0, none, 0, 0⟩ ⟨0, 0, 0, 0, false, 1, (hd : Int), 0, 0, 0, 0, false, 0, 0, 0, 0⟩) 41) = w6 at L ⊢
  generalize w5.heap.size = gO at L ⊢
  go_upto_region 7 with (first | (refine wpList_load_row rfl 41 (.tmp 9) rfl gO rfl _ _ (0, 0) _ (L.bk_ 0 rfl) Try.underlying41 rfl op_sz ?_) | (refine wpList_store_row rfl 41 (.tmp 10) (.tmp 40) rfl _ _ rfl (show _ = Value.agg (opv ⟨none, 0, 0, none, 0, 0, none, 0, 0, none, 0, 0⟩ ⟨0, 0, 0, 0, false, 1, (hd : Int), 0, 0, 0, 0, false, 0, 0, 0, 0⟩) from rfl) _ _ (Bk.new _ _ _) op_sz rfl (opv_one _ _) ?_))
  try rw [World.setRow_alloc_new]
  replace L := (L).alloc (opv ⟨none, 0, 0, none, 0, 0, none, 0, 0, none, 0, 0⟩ ⟨0, 0, 0, 0, false, 1, (hd : Int), 0, 0, 0, 0, false, 0, 0, 0, 0⟩) 41
  try simp only [World.size_alloc] at L
  try dsimp only [nput] at L
  generalize (w6).alloc (.cells (opv ⟨none, 0, 0, none, 0, 0, none, 0, 0, none, 0, 0⟩ ⟨0, 0, 0, 0, false, 1, (hd : Int), 0, 0, 0, 0, false, 0, 0, 0, 0⟩) 41) = w7 at L ⊢
  generalize w6.heap.size = gP at L ⊢
  go_wp2
  clear ehd1 ehd2 hns0 erc
  replace L := L.is 1 (opv hd0 ⟨0, 0, 0, 0, false, 1, (hd : Int), 0, 0, 0, 0, false, 0, 0, 0, 0⟩) rfl
  replace L := L.is 0 (opv hd0 ⟨0, 0, 0, 0, false, 1, (hd : Int), 0, 0, 0, 0, false, 0, 0, 0, 0⟩) rfl
  try dsimp only [nput] at L
  go_loopw [11] (fun sv wr => ∃ (u : Nat) (s : Sc) (h : Hd), sv = .int .i64 (u : Nat) ∧ ((u < ns ∧ SkA M ns hd fu s u 0) ∨ (u = ns ∧ SkC M ns hd fu s)) ∧ EmpL h ∧ Loc w wr [(gP, 41, opv hd0 ⟨0, 0, 0, 0, false, 1, (hd : Int), 0, 0, 0, 0, false, 0, 0, 0, 0⟩), (gO, 41, opv h s), (gH, 27, #[.int .u32 (a : Int), .int .i64 p, .slice A n c, .int .i64 (ns : Int), .int .i64 wo, .int .i64 qu, .int .i64 tr])] [uF (some ⟨gF, 0, none⟩) m dF fu]) (fun sv _ => ns - (intOf sv).toNat)
  case atStart => exact ⟨0, ⟨0, 0, 0, 0, false, 1, (hd : Int), 0, 0, 0, 0, false, 0, 0, 0, 0⟩, hd0, rfl, .inl ⟨by omega, sk_start hn1⟩, EmpL.hd0, L⟩
  case round =>
    clear L
    obtain ⟨u, s, h, rfl, hSk, hE, L⟩ := hrel
    rcases hSk with ⟨hu, hA⟩ | ⟨hu, hS⟩
    · have hu2 : (u : Int) < (ns : Int) := by omega
      have hp1 : (s.phase != 1) = false := by rw [hA.ph]; rfl
      have hst := sk_full hn1 hfr.out (by omega) hA
      obtain ⟨s2, hs2⟩ : ∃ s2, s2 = skS (ns : Int) M fu (sa M ns hd u) (sb M ns hd u) s := ⟨_, rfl⟩
      have TK := fun w C e (U : US w C m e fu) => TSF w C e h s u 0 U hA hE
      rw [← hs2] at hst
      simp only [← hs2] at TK
      replace hst := Lib.hid hst
      clear hs2
      have H_3 := L.at_ 2 3 rfl (v := .int .i64 (ns : Int)) rfl
      have O_8 := L.at_ 1 8 rfl (v := .int .i64 s.phase) rfl
      have H_z := L.lt 2 rfl
      have O_z := L.lt 1 rfl
      go_wp2_with (first | (refine wpList_load_row rfl 27 (.tmp 3) rfl gH rfl _ _ (0, 0) _ (L.bk_ 2 rfl) Try.underlying27 rfl cf_sz ?_) | (refine wpList_load_row rfl 41 (.tmp 9) rfl gO rfl _ _ (0, 0) _ (L.bk_ 1 rfl) Try.underlying41 rfl op_sz ?_))
      refine ((TK _ _ _ (L.us_ 0 rfl)).out).mono ?_
      rintro e w8 ⟨h2, rfl, hE2, K'⟩
      clear H_3 O_8 H_z O_z
      replace L := L.over K'
      go_upto_region 9 with (refine wpList_store_row rfl 41 (.tmp 9) (.tmp 53) rfl gO _ rfl rfl _ _ (L.bk_ 1 rfl) op_sz rfl (opv_one _ _) ?_)
      replace L := (L.row 1 rfl (opv h2 s2))
      try dsimp only [nput] at L
      generalize (w8).setRow gO (opv h2 s2) = w9 at L ⊢
      go_wp2
      go_roundw
      case rel => exact ⟨u + 1, s2, h2, by go_num, hst.out, hE2, L⟩
      case measure => simp [intOf]; omega
    · have hno : ¬ (u < ns) := by omega
      have hno2 : ¬ ((u : Int) < (ns : Int)) := by omega
      have hp6 : (s.phase != 6) = false := by rw [hS.ph]; rfl
      have hso2 : (s.sought != (ns : Int)) = false := by rw [hS.so]; simp
      clear hu hS TSF
      obtain ⟨i0, hi, hi1, hi2, hi3⟩ := info_parts u64_info
      have hown : (wr.alloc (.cells #[] 39)).ownsRow wr.heap.size 39 1 (.slice (some ⟨wr.heap.size, 0, none⟩) 0 0) 0 [] := World.ownsRow_lit wr #[] 0 (Nat.le_refl _) (by unfold maxLen; omega) rfl
      have Ka := below_alloc wr (.cells #[] 39)
      have hUc := hU.below L.K
      obtain ⟨gW, dW, wW, hapW, OR, KR⟩ := run_append_us (P := Try.prog) Try.underlying28 hi hi1 hi2 hi3 hown (hUc.below Ka) hm6 (Nat.le_refl _) Ka.size 28
      have KC := Ka.trans KR
      have hgW := OR.ge
      obtain ⟨cw, hBW, hcw, hdW, hdM⟩ := own_block OR
      clear hown Ka KR OR hi hi1 hi2 hi3 hUc
      have H_3 := L.at_ 2 3 rfl (v := .int .i64 (ns : Int)) rfl
      have O_8 := L.at_ 1 8 rfl (v := .int .i64 s.phase) rfl
      have O_10 := L.at_ 1 10 rfl (v := .int .i64 s.sought) rfl
      have H_z := L.lt 2 rfl
      have O_z := L.lt 1 rfl
      go_upto_region 16 with (at_builtin; refine wpList_append_run rfl (.tmp 64) (.tmp 65) 28 rfl _ _ _ _ rfl rfl hapW ?_)
      clear H_3 O_8 O_10 H_z O_z
      replace L := L.own KC hgW hBW
      clear KC hgW hBW hapW
      go_wp2_with fail
      refine ((TLv _).out).mono ?_
      rintro e w' ⟨rfl, rfl⟩
      go_wp2
      go_loopw [13] (fun iv wr => ∃ (i j : Nat) (cv : Array Value), i = LV + j ∧ i ≤ m ∧ iv = .int .i64 (i : Nat) ∧ Cw cv m (zr LV ys j) ∧ Loc w wr [(gW, 39, cv), (gP, 41, opv hd0 ⟨0, 0, 0, 0, false, 1, (hd : Int), 0, 0, 0, 0, false, 0, 0, 0, 0⟩), (gO, 41, opv h s), (gH, 27, #[.int .u32 (a : Int), .int .i64 p, .slice A n c, .int .i64 (ns : Int), .int .i64 wo, .int .i64 qu, .int .i64 tr])] [uF (some ⟨gF, 0, none⟩) m dF fu]) (fun iv _ => m - (intOf iv).toNat)
      case atStart => exact ⟨LV, 0, cw, rfl, hLm.out.1, rfl, hcw, L⟩
      case round =>
        clear L hcw
        obtain ⟨i, j, cv, hij, him, rfl, hcv, L⟩ := hrel
        replace hij := Lib.hid hij
        by_cases hlt : i < m
        · have hlt2 : (i : Int) < (m : Int) := by omega
          obtain ⟨x, hx⟩ : ∃ x, x = gt (zr LV ys j) i := ⟨_, rfl⟩
          have hcx := cw_here hcv hlt hx
          have hcv2 : Cw (cv.setIfInBounds i (.int .u64 0)) m (zr LV ys (j + 1)) := by have h9 := hcv.set_ (v := 0) (by rw [zr_len]; exact hl9) hlt; unfold zr; rw [← hij.out]; exact h9
          replace hcv2 := Lib.hid hcv2
          clear hcv hx
          have XV := L.at_ 0 i rfl hcx
          have XF := L.fz 0 i rfl
          have XZ := L.lt 0 rfl
          go_upto_region 18 with fail
          clear XV XF XZ
          replace L := L.set 0 i rfl (.int .u64 0)
          try dsimp only [nput] at L
          generalize (wr).setCell ⟨gW, i, none⟩ (.int .u64 0) = w8 at L ⊢
          go_wp2
          go_roundw
          case rel => exact ⟨i + 1, j + 1, _, by rw [hij.out]; rfl, by omega, by go_num, hcv2.out, L⟩
          case measure => simp [intOf]; omega
        · have hjv : j = tv M + 1 := by have := hij.out; have := hLm.out.2; omega
          have hno3 : ¬ (i < m) := hlt
          have hno4 : ¬ ((i : Int) < (m : Int)) := by omega
          subst hjv
          rw [hLV.out] at hcv
          have hlen : (zr (lv M) ys (tv M + 1)).length = m := by rw [zr_len]; exact hl9
          have hfit : ∀ x ∈ zr (lv M) ys (tv M + 1), x < U64 := zr_fit hU.fit _
          have hfree := fun i (hi : i < lv M) => zr_hf (M := M) (ys := ys) (by rw [hl9]; exact hmm.out) hi
          have hx64 := gt_lt hfit (lv M + tv M)
          have hL1 : 0 < lv M := by omega
          generalize zr (lv M) ys (tv M + 1) = fs at *
          have TSG := fun w C e h s k t (hU : US w C m e fs) hA hE => Lib.hid (sstep_run (w := w) (h := h) (s := s) (k := k) (tt := t) (wo := wo) (qu := qu) (tr := tr) (A := A) (n := n) (c := c) (hd := hd) ha hM hn1 hn2 hhd hmt hU hA hE)
          replace hfree := Lib.hid hfree
          replace hfit := Lib.hid hfit
          replace hlen := Lib.hid hlen
          replace hcv := Lib.hid hcv
          replace him := Lib.hid him
          replace hlt := Lib.hid hlt
          obtain ⟨n2, hn2e⟩ : ∃ n2 : Nat, (2 : Int) * (ns : Int) = n2 := ⟨2 * ns, by omega⟩
          obtain ⟨n3, hn3e⟩ : ∃ n3 : Nat, (n2 : Int) + 2 = n3 := ⟨n2 + 2, by omega⟩
          have hn3b : n3 = 2 * ns + 2 := by omega
          replace hn3b := Lib.hid hn3b
          have eW1 : IntKind.i64.wrap (n2 : Int) = (n2 : Int) := IntWalk.i64_in _ (by omega)
          have eW2 : IntKind.i64.wrap (n3 : Int) = (n3 : Int) := IntWalk.i64_in _ (by omega)
          go_wp2
          go_loopw [14] (fun sv wr => ∃ (u : Nat) (s3 : Sc) (h3 : Hd), u ≤ ns + 1 ∧ sv = .int .i64 (u : Nat) ∧ ((∃ k t, SkA M ns hd fs s3 k t ∧ u = k + (if t = 0 then 0 else 1)) ∨ (∃ k, SkB M ns hd fs s3 k (sa M ns hd k))) ∧ EmpL h3 ∧ Loc w wr [(gW, 39, cv), (gP, 41, opv h3 s3), (gO, 41, opv h s), (gH, 27, #[.int .u32 (a : Int), .int .i64 p, .slice A n c, .int .i64 (ns : Int), .int .i64 wo, .int .i64 qu, .int .i64 tr])] [uF (some ⟨gF, 0, none⟩) m dF fu]) (fun sv _ => n3 - (intOf sv).toNat)
          case atStart => exact ⟨0, ⟨0, 0, 0, 0, false, 1, (hd : Int), 0, 0, 0, 0, false, 0, 0, 0, 0⟩, hd0, by omega, rfl, .inl ⟨0, 0, sk_start hn1, rfl⟩, EmpL.hd0, L⟩
          case round =>
            clear L
            obtain ⟨u, s3, h3, hu, rfl, hSk, hE3, L⟩ := hrel
            have hu2 : u < n3 := by have := hn3b.out; omega
            have hu3 : (u : Int) < (n3 : Int) := by omega
            rcases hSk with ⟨k, t, hA, hst⟩ | ⟨k, hS⟩
            · have hp1 : (s3.phase == 1) = true := by rw [hA.ph]; rfl
              have hgo := sk_free2 hn1 hhd hL1 hfree.out hx64 hA hst
              have hkn := hA.hk
              obtain ⟨s2, hs2⟩ : ∃ s2, s2 = skS (ns : Int) M fs (sa M ns hd k) (sb M ns hd k) s3 := ⟨_, rfl⟩
              have TK := fun w C e (U : US w C m e fs) => TSG w C e h3 s3 k t U hA hE3
              rw [← hs2] at hgo
              simp only [← hs2] at TK
              clear hs2
              have hub : u ≤ ns := by rw [hst]; split <;> omega
              have hgo2 : (∃ k t, SkA M ns hd fs s2 k t ∧ u + 1 = k + (if t = 0 then 0 else 1)) ∨ (∃ k, SkB M ns hd fs s2 k (sa M ns hd k)) := hgo.elim .inl (fun h => .inr ⟨k, h⟩)
              replace hgo2 := Lib.hid hgo2
              clear hgo hst
              have H_3 := L.at_ 3 3 rfl (v := .int .i64 (ns : Int)) rfl
              have P_8 := L.at_ 1 8 rfl (v := .int .i64 s3.phase) rfl
              have H_z := L.lt 3 rfl
              have P_z := L.lt 1 rfl
              go_wp2_with (first | (refine wpList_load_row rfl 27 (.tmp 3) rfl gH rfl _ _ (0, 0) _ (L.bk_ 3 rfl) Try.underlying27 rfl cf_sz ?_) | (refine wpList_load_row rfl 41 (.tmp 10) rfl gP rfl _ _ (0, 0) _ (L.bk_ 1 rfl) Try.underlying41 rfl op_sz ?_))
              refine ((TK _ _ _ (hcv.out.us (L.bk_ 0 rfl) hlen.out hfit.out hdW hdM)).out).mono ?_
              rintro e w8 ⟨h2, rfl, hE2, K'⟩
              clear H_3 P_8 H_z P_z
              replace L := L.over K'
              go_upto_region 22 with (refine wpList_store_row rfl 41 (.tmp 10) (.tmp 94) rfl gP _ rfl rfl _ _ (L.bk_ 1 rfl) op_sz rfl (opv_one _ _) ?_)
              replace L := (L.row 1 rfl (opv h2 s2))
              try dsimp only [nput] at L
              generalize (w8).setRow gP (opv h2 s2) = w9 at L ⊢
              go_wp2
              go_roundw
              case rel => exact ⟨u + 1, s2, h2, by omega, by go_num, hgo2.out, hE2, L⟩
              case measure => simp [intOf]; omega
            · clear TSG
              have hp1 : (s3.phase == 1) = false := by rw [hS.ph]; rfl
              have hp2 : (s3.phase == 2) = true := by rw [hS.ph]; rfl
              have hsd := hS.sd
              have hso := hS.so
              have hlf := hS.lf
              have hkn := hS.hk
              have hab : sa M ns hd k < sb M ns hd k := hS.hi
              have hRe := fun w => Lib.hid (rest_any (hd + k) ns hn1 hn2 (by omega) w)
              have hRa := fun w => Lib.hid (rrange_any M ns ((hd + k) % ns) hM4 hn1 hn2 (Nat.mod_lt _ hn1) w)
              have hsb : sb M ns hd k ≤ 65536 := by have := (sab (M := M) (hd := hd) (k := k) hn1).2; omega
              unfold sa at hlf hab
              unfold sb at hab hsb
              clear hS
              generalize ct (lv M) ns ((hd + k) % ns) = qa at *
              generalize ct (lv M) ns ((hd + k) % ns + 1) = qb at *
              generalize (hd + k) % ns = q at *
              obtain ⟨sm, hsm⟩ : ∃ sm : Nat, (hd : Int) + (k : Int) = sm := ⟨hd + k, by omega⟩
              have hsmn : hd + k = sm := by omega
              rw [hsmn] at hRe
              clear hsmn
              have hkb : hd ≤ 64 ∧ k ≤ 64 ∧ sm ≤ 128 := by omega
              have eW3 : IntKind.i64.wrap (sm : Int) = (sm : Int) := IntWalk.i64_in _ (by omega)
              have hlf2 : (s3.leaf == (qa : Int)) = true := by rw [hlf]; simp
              have hab2 : (qa : Int) < (qb : Int) := by omega
              have H_3 := L.at_ 3 3 rfl (v := .int .i64 (ns : Int)) rfl
              have P_8 := L.at_ 1 8 rfl (v := .int .i64 s3.phase) rfl
              have H_z := L.lt 3 rfl
              have P_z := L.lt 1 rfl
              go_upto_region 24 with fail
              clear H_3 P_8 H_z P_z
              replace L := L.drew
              refine wp_region_held_drew (S := fun w' => Loc w w' [(gW, 39, cv), (gP, 41, opv h3 s3), (gO, 41, opv h s), (gH, 27, #[.int .u32 (a : Int), .int .i64 p, .slice A n c, .int .i64 (ns : Int), .int .i64 wo, .int .i64 qu, .int .i64 tr])] [uF (some ⟨gF, 0, none⟩) m dF fu]) (by kernel_rfl) L (fun hHeld => ?_)
              generalize wr.drew = v8 at hHeld L ⊢
              refine wpAnyH_take (i := 0) (oi := ⟨some 96, _, _, _, _, _⟩) (v := .int .i64 (M : Int)) rfl (by kernel_rfl) (by kernel_rfl) (by kernel_rfl) (fun _ _ _ h => h) (Or.inl ⟨by rfl, ?_⟩) hHeld ?_
              · intro ww hS
                try dsimp only at hS
                go_simp
                try with_reducible rfl
                try omega
              try simp only [Act.put, List.setIfInBounds_toArray, List.set_cons_zero, List.set_cons_succ]
              refine wpAnyH_take (i := 1) (oi := ⟨some 97, _, _, _, _, _⟩) (v := .pointer (some ⟨gH, 3, none⟩)) rfl (by kernel_rfl) (by kernel_rfl) (by kernel_rfl) (fun _ _ _ h => h) (Or.inl ⟨by rfl, ?_⟩) hHeld ?_
              · intro ww hS
                try dsimp only at hS
                go_simp
                try with_reducible rfl
                try omega
              try simp only [Act.put, List.setIfInBounds_toArray, List.set_cons_zero, List.set_cons_succ]
              refine wpAnyH_take (i := 2) (oi := ⟨some 98, _, _, _, _, _⟩) (v := .int .i64 (ns : Int)) rfl (by kernel_rfl) (by kernel_rfl) (by kernel_rfl) (fun _ _ _ h => h) (Or.inl ⟨by rfl, ?_⟩) hHeld ?_
              · intro ww hS
                try dsimp only at hS
                have H_3 := (hS).at_ 3 3 rfl (v := .int .i64 (ns : Int)) rfl
                have H_z := (hS).lt 3 rfl
                go_simp
                try with_reducible rfl
                try omega
              try simp only [Act.put, List.setIfInBounds_toArray, List.set_cons_zero, List.set_cons_succ]
              refine wpAnyH_take (i := 3) (oi := ⟨some 99, _, _, _, _, _⟩) (v := .pointer (some ⟨gP, 9, none⟩)) rfl (by kernel_rfl) (by kernel_rfl) (by kernel_rfl) (fun _ _ _ h => h) (Or.inl ⟨by rfl, ?_⟩) hHeld ?_
              · intro ww hS
                try dsimp only at hS
                go_simp
                try with_reducible rfl
                try omega
              try simp only [Act.put, List.setIfInBounds_toArray, List.set_cons_zero, List.set_cons_succ]
              refine wpAnyH_take (i := 4) (oi := ⟨some 100, _, _, _, _, _⟩) (v := .int .i64 (hd : Int)) rfl (by kernel_rfl) (by kernel_rfl) (by kernel_rfl) (fun _ _ _ h => h) (Or.inl ⟨by rfl, ?_⟩) hHeld ?_
              · intro ww hS
                try dsimp only at hS
                have O_9 := ((hS)).at_ 1 9 rfl (v := .int .i64 (hd : Int)) (by show some (Value.int .i64 s3.shard) = _; rw [hsd])
                have O_z := ((hS)).lt 1 rfl
                go_simp
                try with_reducible rfl
                try omega
              try simp only [Act.put, List.setIfInBounds_toArray, List.set_cons_zero, List.set_cons_succ]
              refine wpAnyH_take (i := 5) (oi := ⟨some 101, _, _, _, _, _⟩) (v := .pointer (some ⟨gP, 10, none⟩)) rfl (by kernel_rfl) (by kernel_rfl) (by kernel_rfl) (fun _ _ _ h => h) (Or.inl ⟨by rfl, ?_⟩) hHeld ?_
              · intro ww hS
                try dsimp only at hS
                go_simp
                try with_reducible rfl
                try omega
              try simp only [Act.put, List.setIfInBounds_toArray, List.set_cons_zero, List.set_cons_succ]
              refine wpAnyH_take (i := 6) (oi := ⟨some 102, _, _, _, _, _⟩) (v := .int .i64 (k : Int)) rfl (by kernel_rfl) (by kernel_rfl) (by kernel_rfl) (fun _ _ _ h => h) (Or.inl ⟨by rfl, ?_⟩) hHeld ?_
              · intro ww hS
                try dsimp only at hS
                have O_10 := ((hS)).at_ 1 10 rfl (v := .int .i64 (k : Int)) (by show some (Value.int .i64 s3.sought) = _; rw [hso])
                have O_z := ((hS)).lt 1 rfl
                go_simp
                try with_reducible rfl
                try omega
              try simp only [Act.put, List.setIfInBounds_toArray, List.set_cons_zero, List.set_cons_succ]
              refine wpAnyH_take (i := 7) (oi := ⟨some 103, _, _, _, _, _⟩) (v := .int .i64 (sm : Int)) rfl (by kernel_rfl) (by kernel_rfl) (by kernel_rfl) (fun _ _ _ h => h) (Or.inl ⟨by rfl, ?_⟩) hHeld ?_
              · intro ww hS
                try dsimp only at hS
                go_simp
                try with_reducible rfl
                try omega
              try simp only [Act.put, List.setIfInBounds_toArray, List.set_cons_zero, List.set_cons_succ]
              refine wpAnyH_take (i := 8) (oi := ⟨some 104, _, _, _, _, _⟩) (v := .pointer (some ⟨gH, 3, none⟩)) rfl (by kernel_rfl) (by kernel_rfl) (by kernel_rfl) (fun _ _ _ h => h) (Or.inl ⟨by rfl, ?_⟩) hHeld ?_
              · intro ww hS
                try dsimp only at hS
                go_simp
                try with_reducible rfl
                try omega
              try simp only [Act.put, List.setIfInBounds_toArray, List.set_cons_zero, List.set_cons_succ]
              refine wpAnyH_take (i := 9) (oi := ⟨some 105, _, _, _, _, _⟩) (v := .int .i64 (ns : Int)) rfl (by kernel_rfl) (by kernel_rfl) (by kernel_rfl) (fun _ _ _ h => h) (Or.inl ⟨by rfl, ?_⟩) hHeld ?_
              · intro ww hS
                try dsimp only at hS
                have H_3 := (hS).at_ 3 3 rfl (v := .int .i64 (ns : Int)) rfl
                have H_z := (hS).lt 3 rfl
                go_simp
                try with_reducible rfl
                try omega
              try simp only [Act.put, List.setIfInBounds_toArray, List.set_cons_zero, List.set_cons_succ]
              refine wpAnyH_ready (rs := [10]) (by kernel_rfl) (by simp) ?_
              refine AllReadyH.cons (o := ⟨some 106, _, _, _, _, _⟩) rfl (fun K0 hK => ?_) AllReadyH.nil
              go_simp
              refine ((hRe _).out).mono ?_
              rintro e w' ⟨rfl, rfl⟩
              refine hK.out _ _ L (fun hHeld' => ?_)
              clear hHeld hK K0
              have hHeld := hHeld'
              clear hHeld'
              try simp only [Act.put, List.setIfInBounds_toArray, List.set_cons_zero, List.set_cons_succ]
              refine wpAnyH_ready (rs := [11]) (by kernel_rfl) (by simp) ?_
              refine AllReadyH.cons (o := ⟨some 107, _, _, _, _, _⟩) rfl (fun K0 hK => ?_) AllReadyH.nil
              go_simp
              refine ((hRa _).out).mono ?_
              rintro e w9 ⟨rfl, K'⟩
              replace L := L.over K'
              refine hK.out _ _ L (fun hHeld' => ?_)
              clear hHeld hK K0
              have hHeld := hHeld'
              clear hHeld'
              clear K'
              try simp only [Act.put, List.setIfInBounds_toArray, List.set_cons_zero, List.set_cons_succ]
              refine wpAnyH_take (i := 12) (oi := ⟨some 95, _, _, _, _, _⟩) (v := ?_) rfl (by kernel_rfl) (by kernel_rfl) (by kernel_rfl) (fun _ _ _ h => h) (Or.inl ⟨by rfl, ?_⟩) hHeld ?_
              rotate_left
              · intro ww hS
                try dsimp only at hS
                go_simp
                try with_reducible rfl
                try omega
              try simp only [Act.put, List.setIfInBounds_toArray, List.set_cons_zero, List.set_cons_succ]
              refine wpAnyH_take (i := 13) (oi := ⟨some 108, _, _, _, _, _⟩) (v := .int .i64 (qa : Int)) rfl (by kernel_rfl) (by kernel_rfl) (by kernel_rfl) (fun _ _ _ h => h) (Or.inl ⟨by rfl, ?_⟩) hHeld ?_
              · intro ww hS
                try dsimp only at hS
                go_simp
                try with_reducible rfl
                try omega
              try simp only [Act.put, List.setIfInBounds_toArray, List.set_cons_zero, List.set_cons_succ]
              refine wpAnyH_take (i := 14) (oi := ⟨some 109, _, _, _, _, _⟩) (v := .int .i64 (qb : Int)) rfl (by kernel_rfl) (by kernel_rfl) (by kernel_rfl) (fun _ _ _ h => h) (Or.inl ⟨by rfl, ?_⟩) hHeld ?_
              · intro ww hS
                try dsimp only at hS
                go_simp
                try with_reducible rfl
                try omega
              try simp only [Act.put, List.setIfInBounds_toArray, List.set_cons_zero, List.set_cons_succ]
              refine wpAnyH_take (i := 15) (oi := ⟨some 15, _, _, _, _, _⟩) (v := .int .i64 (qa : Int)) rfl (by kernel_rfl) (by kernel_rfl) (by kernel_rfl) (fun _ _ _ h => h) (Or.inl ⟨by rfl, ?_⟩) hHeld ?_
              · intro ww hS
                try dsimp only at hS
                go_simp
                try with_reducible rfl
                try omega
              try simp only [Act.put, List.setIfInBounds_toArray, List.set_cons_zero, List.set_cons_succ]
              refine wpAnyH_take (i := 16) (oi := ⟨some 16, _, _, _, _, _⟩) (v := .int .i64 (qb : Int)) rfl (by kernel_rfl) (by kernel_rfl) (by kernel_rfl) (fun _ _ _ h => h) (Or.inl ⟨by rfl, ?_⟩) hHeld ?_
              · intro ww hS
                try dsimp only at hS
                go_simp
                try with_reducible rfl
                try omega
              try simp only [Act.put, List.setIfInBounds_toArray, List.set_cons_zero, List.set_cons_succ]
              refine wpAnyH_done (by kernel_rfl) ?_ _
              clear hHeld
              have P_8 := L.at_ 1 8 rfl (v := .int .i64 s3.phase) rfl
              have P_11 := L.at_ 1 11 rfl (v := .int .i64 s3.leaf) rfl
              have P_z := L.lt 1 rfl
              go_wp2_with fail
              clear P_8 P_11 P_z
              go_ret
              exact ⟨rfl, L.K⟩
end
theorem walk (a p : Int) (A : Option Addr) (n c : Nat) (z : List Int) (sh wo qu tr : Int) (B : Option Addr) (m d : Nat) (zb : List Int) (x : Int) (w : World) (wa : (Lit.int .u32 a).wf = true) (wr : IsRow .i64 w A n c z) (wb : IsRow .u64 w B m d zb) (wx : (Lit.int .u8 x).wf = true) :
    Calls Try.prog 6 #[.agg #[.int .u32 a, .int .i64 p, .slice A n c, .int .i64 sh, .int .i64 wo, .int .i64 qu, .int .i64 tr], .slice B m d, .int .u8 x] w fun e w' => e = .returned (.bool true) ∧ Below w.heap.size w w' := by
  obtain ⟨a, rfl, ha⟩ := wf_u32 wa
  obtain ⟨zs, h0, _⟩ := IS.of_row wr
  obtain ⟨ys, hU⟩ := US.of_row wb
  obtain ⟨X, rfl, hX⟩ := wf_u8 wx
  exact main ha h0 hU hX
end Go.Proofs.Ytlaejiephpmniaa.seekFull
