/-
  What Cells of package word answers of a configuration that may be: the first cells; nothing that was there is otherwise.
-/
import Derived.Test.YtbipjdmaoofggaaWordNew
namespace Go.Proofs.Ytbipjdmaoofggaa
open Go.RowKit
theorem Blk.below {w w' : World} {g : Nat} {t : TypeId} {xs : List Nat} (h : Blk w g t xs) (K : Below w.heap.size w w') : Blk w' g t xs := (K.block g h.lt).trans h
theorem free_any {w : World} {g M j : Nat} {xs : List Nat} (hB : Blk w g 22 xs) (hl : xs.length = lv M + tv M + 1) (hf : ∀ x ∈ xs, x < U64) (hm : M ≤ 65536) (hj : j < lv M) :
    Calls Try.prog 48 #[.slice (some ⟨g, 0, none⟩) (lv M + tv M + 1) (lv M + tv M + 1), .int .i64 M, .int .i64 j] w fun e w' => e = .returned (.tuple #[]) ∧ Blk w' g 22 ((xs.set (lv M + j / 64) (clrb (gt xs (lv M + j / 64)) (j % 64))).set (lv M + tv M) (clrb (gt xs (lv M + tv M)) (j / 64))) ∧ Below g w w' := by
  have h1 := lv_le hm
  have h2 := tv_le hm
  have h3 : j / 64 < tv M := by unfold tv tq; omega
  have T1 := fun w => Lib.hid (top_any M j hm (by omega) w)
  have T2 := fun w => Lib.hid (rootof_any M j hm (by omega) w)
  obtain ⟨tp, htp⟩ : ∃ x : Nat, x = lv M + j / 64 := ⟨_, rfl⟩
  obtain ⟨rt, hrt⟩ : ∃ x : Nat, x = lv M + tv M := ⟨_, rfl⟩
  obtain ⟨b1, hb1⟩ : ∃ x : Nat, x = j % 64 := ⟨_, rfl⟩
  obtain ⟨b2, hb2⟩ : ∃ x : Nat, x = j / 64 := ⟨_, rfl⟩
  rw [← htp, ← hb1] at T1
  rw [← hrt, ← hb2] at T2
  rw [← htp, ← hrt, ← hb1, ← hb2]
  rw [← hrt] at hl
  have g1 : tp < rt + 1 := by omega
  have g2 : tp ≠ rt := by omega
  have g3 : b1 < 64 := by omega
  have g4 : b2 < 64 := by omega
  have g5 : rt ≤ 3000 := by omega
  have C1 := fun w => Lib.hid (clear_any (gt xs tp) b1 (gt_lt hf tp) g3 w)
  have C2 := fun w => Lib.hid (clear_any (gt xs rt) b2 (gt_lt hf rt) g4 w)
  have c1 := hB.cell (i := tp) (by omega)
  have f1 := hB.frozen tp
  have hB1 := hB.set_ tp (clrb (gt xs tp) b1)
  have c2 := hB1.cell (i := rt) (by simp; omega)
  rw [gt_set (by omega), if_neg g2] at c2
  have f2 := hB1.frozen rt
  have hB2 := Lib.hid (hB1.set_ rt (clrb (gt xs rt) b2))
  clear hB1 hB htp hrt hb1 hb2 h3 hf hl
  generalize clrb (gt xs tp) b1 = v1 at *
  generalize clrb (gt xs rt) b2 = v2 at *
  generalize gt xs tp = x1 at *
  generalize gt xs rt = x2 at *
  go_enter Try.func48, Try.ntmps48
  go_wp2_with (first
    | ((with_reducible refine ((T1 _).out).mono ?_); rintro e w' ⟨rfl, rfl⟩)
    | ((with_reducible refine ((T2 _).out).mono ?_); rintro e w' ⟨rfl, rfl⟩)
    | ((with_reducible refine ((C1 _).out).mono ?_); rintro e w' ⟨rfl, rfl⟩)
    | ((with_reducible refine ((C2 _).out).mono ?_); rintro e w' ⟨rfl, rfl⟩))
  go_end0
  exact ⟨rfl, hB2.out, ((Below.refl g w).setCell (p := ⟨g, tp, none⟩) (Nat.le_refl _) _).setCell (p := ⟨g, rt, none⟩) (Nat.le_refl _) _⟩
set_option maxHeartbeats 1000000 in
theorem wcells_any {w : World} {lo a M : Nat} {p sh wo qu tr : Int} {A : Option Addr} {n c : Nat} {xs : List Int} (ha : a < 4294967296) (hM : Much a p M) (h : IS .i64 lo w A n c xs) (hn : n ≤ 65536) (hr : risB M 0 xs = true) :
    Calls Try.prog 26 #[.agg #[.int .u32 a, .int .i64 p, .slice A n c, .int .i64 sh, .int .i64 wo, .int .i64 qu, .int .i64 tr]] w (RetS (lv M + tv M + 1) (cl (nw M xs) (lv M) (tv M) (lv M)) w) := by
  have hm := hM.most
  have h1 := lv_le hm
  have h2 := tv_le hm
  have h3 : lv M ≤ 64 * tv M := by unfold tv tq; omega
  have h4 : M ≤ 32 * lv M ∧ 32 * lv M < M + 32 := by unfold lv; omega
  have F := fun w g j ys (B : Blk w g 22 ys) e1 e2 e3 => Lib.hid (free_any (M := M) (j := j) B e1 e2 hm e3)
  have T1 := fun w => Lib.hid (cells_any M hm w)
  have T2 := fun w => Lib.hid (leaves_any M hm w)
  have T3 : ∀ w, Hid (Calls Try.prog 44 #[.int .i64 64] w fun e w' => e = .returned (.int .u64 (msk 64)) ∧ w = w') := fun w => mask_any 64 (by decide) w
  have hv := nw_lt M xs
  obtain ⟨N, hN⟩ : ∃ N, N = lv M + tv M + 1 := ⟨_, rfl⟩
  rw [← hN] at T1 F ⊢
  obtain ⟨i0, hi, hz0, hz1, hz2⟩ := info_parts u64_info
  have hb8 : i0.bytes * N ≤ 281474976710656 := by rw [hz2]; omega
  have hN2 : N ≤ 3000 := by omega
  generalize lv M = L at *
  generalize tv M = T at *
  have HN := Lib.hid hN
  clear hN
  have K := below_alloc w (.cells #[.int .u32 a, .int .i64 p, .slice A n c, .int .i64 sh, .int .i64 wo, .int .i64 qu, .int .i64 tr] 36)
  have H := Bk.new w #[.int .u32 a, .int .i64 p, .slice A n c, .int .i64 sh, .int .i64 wo, .int .i64 qu, .int .i64 tr] 36
  replace h := h.below K
  go_enter Try.func26, Try.ntmps26
  go_wp2_with fail
  generalize w.alloc (.cells #[.int .u32 a, .int .i64 p, .slice A n c, .int .i64 sh, .int .i64 wo, .int .i64 qu, .int .i64 tr] 36) = w1 at H K h ⊢
  generalize w.heap.size = g at H ⊢
  refine (many_yes ha hM).mono ?_
  rintro e w2 ⟨rfl, K'⟩
  replace H := H.below K'
  replace h := h.below K'
  replace K := Below.then_ K K'
  clear K'
  go_wp2_with (first
    | ((with_reducible refine ((T1 _).out).mono ?_); rintro e w' ⟨rfl, rfl⟩)
    | ((with_reducible refine ((T2 _).out).mono ?_); rintro e w' ⟨rfl, rfl⟩)
    | (at_make; refine wpList_make_full _ rfl (.tmp 11) (.tmp 11) _ rfl w2.heap.size 22 i0 _ 1 Try.underlying43 hi hz0 hz1 .i64 .i64 _ _ N rfl rfl rfl rfl hb8 (by unfold maxLen; omega) (Nat.le_refl _) ?_; intro w3 hown1 hg1; have B := Blk.of_made hown1; clear hown1; have K1 : Below w2.heap.size w2 w3 := (Below.refl _ _).grown hg1 (Nat.le_refl _) (by simp); clear hg1))
  clear hb8 hi hz0 hz1 hz2 T1
  rw [prc_start L] at B
  obtain ⟨g2, hg2⟩ : ∃ x, x = w2.heap.size := ⟨_, rfl⟩
  rw [← hg2] at B ⊢
  have hge : w2.heap.size ≤ g2 := by omega
  clear hg2
  go_loopw [5] (fun i wr => ∃ k : Nat, L ≤ k ∧ k ≤ N ∧ i = .int .i64 k ∧ Hid (Blk wr g2 22 (prc L k N)) ∧ Below w2.heap.size w2 wr) (fun i _ => N - (intOf i).toNat)
  case atStart => exact ⟨L, Nat.le_refl _, by have := HN.out; omega, rfl, Lib.hid B, K1⟩
  case round =>
    clear B K1
    obtain ⟨k, hLk, hk, rfl, HB, Kr⟩ := hrel
    by_cases hlt : k < N
    · have c1 := HB.out.cell (i := k) (by rw [prc_len]; omega)
      have f1 := HB.out.frozen k
      have HB2 : Hid (Blk (wr.setCell ⟨g2, k, none⟩ (.int .u64 (msk 64 : Nat))) g2 22 (prc L (k + 1) N)) := by have := HB.out.set_ k (msk 64); rw [prc_step hLk hlt] at this; exact this
      go_wp2_with ((with_reducible refine ((T3 _).out).mono ?_); rintro e w' ⟨rfl, rfl⟩)
      go_roundw
      case rel => exact ⟨k + 1, by omega, by omega, by go_num, HB2, Kr.setCell hge _⟩
      case measure => simp [intOf]; omega
    · obtain rfl : k = N := by omega
      have HB2 : Hid (Blk wr g2 22 (cl (nw M xs) L T 0)) := by have := HB.out; rw [HN.out, prc_end (nw M xs)] at this; exact this
      clear HB
      go_wp2_with ((with_reducible refine ((T2 _).out).mono ?_); rintro e w' ⟨rfl, rfl⟩)
      clear T3 T2 hlt hLk hk
      go_loopw [27] (fun i ws => ∃ j : Nat, j ≤ L ∧ i = .int .i64 j ∧ Hid (Blk ws g2 22 (cl (nw M xs) L T j)) ∧ Below w2.heap.size w2 ws) (fun i _ => L - (intOf i).toNat)
      case atStart => exact ⟨0, Nat.zero_le _, rfl, HB2, Kr⟩
      case round =>
        clear HB2 Kr
        obtain ⟨j, hj, rfl, HB, Kr⟩ := hrel
        replace H := H.below Kr
        replace h := h.below Kr
        have K2 := Below.then_ K Kr
        clear K
        have K := K2
        clear K2
        by_cases hlt : j < L
        · have hjM : 32 * j < M := by omega
          have gH := H.lt
          have H_0 := H.at_ (v := .int .u32 a) 0 rfl
          have H_1 := H.at_ (v := .int .i64 p) 1 rfl
          have H_2 := H.at_ (v := .slice A n c) 2 rfl
          have H_3 := H.at_ (v := .int .i64 sh) 3 rfl
          have H_4 := H.at_ (v := .int .i64 wo) 4 rfl
          have H_5 := H.at_ (v := .int .i64 qu) 5 rfl
          have H_6 := H.at_ (v := .int .i64 tr) 6 rfl
          have H_z := H.lt
          go_wp2_with fail
          refine (wnew_any ha hM h hn hr hjM).mono ?_
          rintro e w6 ⟨rfl, K6⟩
          clear H_0 H_1 H_2 H_3 H_4 H_5 H_6 H_z
          have K' := K6
          replace H := H.below K'
          replace h := h.below K'
          replace Kr := Below.then_ Kr K'
          replace K := Below.then_ K K'
          clear K'
          have B := HB.out.below K6
          clear HB K6
          have B2 := B.set_ j (nw M xs j)
          have c1 := B.cell (i := j) (by rw [cl_len]; omega)
          have f1 := B.frozen j
          have c2 := B2.cell (i := j) (by rw [List.length_set, cl_len]; omega)
          rw [gt_set (by rw [cl_len]; omega), if_pos rfl] at c2
          have V := fun w => Lib.hid (full_any (nw M xs j) (hv j) w)
          have hjT : j / 64 < T := by omega
          have HE : L + T + 1 = k := HN.out.symm
          have hjk : j < k := by omega
          cases hfu : fl (nw M xs j) with
          | true =>
            rw [cl_full hlt hfu] at B2
            rw [hfu] at V
            have HB := Lib.hid B2
            clear B B2 hfu F HE
            have Kx := Kr.setCell (p := ⟨g2, j, none⟩) hge (.int .u64 (nw M xs j : Nat))
            generalize nw M xs j = x at *
            go_wp2_with ((with_reducible refine ((V _).out).mono ?_); rintro e w' ⟨rfl, rfl⟩)
            go_roundw
            case rel => exact ⟨j + 1, by omega, by go_num, HB, Kx⟩
            case measure => simp [intOf]; omega
          | false =>
            have FF := F _ _ j _ B2 (by rw [List.length_set, cl_len]; exact HE) (fit_set (cl_fit hv L T j) j (hv j)) hlt
            rw [gt_set (by rw [cl_len]; omega), gt_set (by rw [cl_len]; omega), if_neg (by omega), if_neg (by omega), gt_cl_top hjT, gt_cl_root, cl_free hlt hjT (by omega) hfu] at FF
            rw [hfu] at V
            clear B B2 hfu F HE
            have Kx := Kr.setCell (p := ⟨g2, j, none⟩) hge (.int .u64 (nw M xs j : Nat))
            generalize nw M xs j = x at *
            go_wp2_with ((with_reducible refine ((V _).out).mono ?_); rintro e w' ⟨rfl, rfl⟩)
            refine ((FF).out).mono ?_
            rintro e w7 ⟨rfl, B7, K7⟩
            go_wp2
            go_roundw
            case rel => exact ⟨j + 1, by omega, by go_num, Lib.hid B7, Kx.trans (K7.mono hge)⟩
            case measure => simp [intOf]; omega
        · obtain rfl : j = L := by omega
          go_wp2
          go_ret
          exact ⟨_, _, rfl, HB.out.us (cl_fit hv _ _ _) (by rw [cl_len]; exact HN.out.symm) (by omega), K⟩
end Go.Proofs.Ytbipjdmaoofggaa
