/-
  The anchor of layer 9's laws answers true.
-/
import Derived.Test.YthnmneinimlpcaaModelRefs4
import Derived.Deep.WholeRow
namespace Go.Proofs.Ythnmneinimlpcaa
open Go.RowKit
theorem much30 : Much 167772160 30 4 := ⟨by decide +kernel, by decide +kernel⟩
theorem IS.lit {k : IntKind} {w : World} {g : Nat} {t : TypeId} (xs : List Int) {n : Nat} (h : Bk w g t (xs.map (iv k)).toArray) (hn : xs.length = n) (hm : n ≤ 65536) : IS k 0 w (some ⟨g, 0, none⟩) n n xs := Bi.is h hn hm
theorem ris_dec {xs : List Int} (h : decide (xs.Pairwise (· < ·)) = true) : Ris xs := by unfold Ris; exact of_decide_eq_true h
set_option maxRecDepth 100000 in
set_option maxHeartbeats 4000000 in
theorem awake_any (w : World) : Calls Try.prog 9 #[] w (RetBo true w) := by
  go_enter Try.func9, Try.ntmps9
  have K := below_alloc w (.cells #[.int .i64 0] 3)
  have A0 := Bk.new w #[.int .i64 0] 3
  go_upto_region 2 with (refine wpList_store_row rfl 27 (.tmp 1) (.tmp 4) rfl _ _ rfl (show _ = Value.agg #[.int .u32 167772160, .int .i64 30, .slice (some ⟨w.heap.size, 0, none⟩) 1 1, .int .i64 1, .int .i64 1, .int .i64 1, .int .i64 1] from rfl) _ _ (Bk.new _ _ _) cf_sz rfl (by simp [Value.oneCell']) ?_)
  have H : Bk ((w.alloc (.cells #[.int .i64 0] 3)).alloc (.cells #[.int .u32 167772160, .int .i64 30, .slice (some ⟨w.heap.size, 0, none⟩) 1 1, .int .i64 1, .int .i64 1, .int .i64 1, .int .i64 1] 27)) (w.alloc (.cells #[.int .i64 0] 3)).heap.size 27 #[.int .u32 167772160, .int .i64 30, .slice (some ⟨w.heap.size, 0, none⟩) 1 1, .int .i64 1, .int .i64 1, .int .i64 1, .int .i64 1] := Bk.new _ _ _
  replace A0 := A0.alloc (.cells #[.int .u32 167772160, .int .i64 30, .slice (some ⟨w.heap.size, 0, none⟩) 1 1, .int .i64 1, .int .i64 1, .int .i64 1, .int .i64 1] 27)
  replace K := Below.then_ K (below_alloc _ (.cells #[.int .u32 167772160, .int .i64 30, .slice (some ⟨w.heap.size, 0, none⟩) 1 1, .int .i64 1, .int .i64 1, .int .i64 1, .int .i64 1] 27))
  generalize (w.alloc (.cells #[.int .i64 0] 3)).alloc (.cells #[.int .u32 167772160, .int .i64 30, .slice (some ⟨w.heap.size, 0, none⟩) 1 1, .int .i64 1, .int .i64 1, .int .i64 1, .int .i64 1] 27) = w1 at H A0 K ⊢
  simp only [World.size_alloc] at H ⊢
  obtain ⟨gH, hgH⟩ : ∃ x, x = w.heap.size + 1 := ⟨_, rfl⟩
  rw [← hgH] at H ⊢
  clear hgH
  obtain ⟨gA, hgA⟩ : ∃ x, x = w.heap.size := ⟨_, rfl⟩
  rw [← hgA] at H A0 ⊢
  clear hgA
  have hA := IS.lit (k := .i64) (n := 1) [0] A0 (by rfl) (by omega)
  clear A0
  have B := Bk.new w1 #[.int .i64 1, .int .i64 5] 3
  have KB := below_alloc w1 (.cells #[.int .i64 1, .int .i64 5] 3)
  have T := Lib.hid (mwith_any (IS.lit (n := 2) [1, 5] B (by rfl) (by omega)) (by omega) (ris_dec (by decide +kernel)) 3)
  go_wp2_with fail
  refine (T.out).mono ?_
  rintro e w2 ⟨A, n, c, rfl, I, K'⟩
  replace KB := Below.then_ KB K'
  replace H := H.below KB
  replace hA := hA.below KB
  replace K := Below.then_ K KB
  clear KB K' B T
  rw [show ins [1, 5] 3 = [1, 3, 5] by decide +kernel] at I
  obtain rfl : 3 = n := I.len
  have B := Bk.new w2 #[.int .i64 1, .int .i64 3, .int .i64 5] 3
  have KB := below_alloc w2 (.cells #[.int .i64 1, .int .i64 3, .int .i64 5] 3)
  have T := Lib.hid (ints_same (I.below KB) (IS.lit (n := 3) [1, 3, 5] B (by rfl) (by omega)) (by omega))
  go_wp2_with fail
  refine (T.out).mono ?_
  rintro e w3 ⟨rfl, K'⟩
  replace KB := Below.then_ KB K'
  replace H := H.below KB
  replace hA := hA.below KB
  replace K := Below.then_ K KB
  clear KB K' B T
  clear I
  have B := Bk.new w3 #[.int .i64 1, .int .i64 3, .int .i64 5] 3
  have KB := below_alloc w3 (.cells #[.int .i64 1, .int .i64 3, .int .i64 5] 3)
  have T := Lib.hid (mwithout_any (IS.lit (n := 3) [1, 3, 5] B (by rfl) (by omega)) (by omega) (ris_dec (by decide +kernel)) 3)
  go_wp2_with fail
  refine (T.out).mono ?_
  rintro e w4 ⟨A, n, c, rfl, I, K'⟩
  replace KB := Below.then_ KB K'
  replace H := H.below KB
  replace hA := hA.below KB
  replace K := Below.then_ K KB
  clear KB K' B T
  rw [show del [1, 3, 5] 3 = [1, 5] by decide +kernel] at I
  obtain rfl : 2 = n := I.len
  have B := Bk.new w4 #[.int .i64 1, .int .i64 5] 3
  have KB := below_alloc w4 (.cells #[.int .i64 1, .int .i64 5] 3)
  have T := Lib.hid (ints_same (I.below KB) (IS.lit (n := 2) [1, 5] B (by rfl) (by omega)) (by omega))
  go_wp2_with fail
  refine (T.out).mono ?_
  rintro e w5 ⟨rfl, K'⟩
  replace KB := Below.then_ KB K'
  replace H := H.below KB
  replace hA := hA.below KB
  replace K := Below.then_ K KB
  clear KB K' B T
  clear I
  have B := Bk.new w5 #[.int .i64 1, .int .i64 5] 3
  have KB := below_alloc w5 (.cells #[.int .i64 1, .int .i64 5] 3)
  have T := mhas_any (IS.lit (n := 2) [1, 5] B (by rfl) (by omega)) (by omega) (ris_dec (by decide +kernel)) 5
  rw [show hasB [1, 5] 5 = true by decide +kernel] at T
  replace T := Lib.hid (T.mono (R' := RetBo true _) (by rintro e _ ⟨rfl, rfl⟩; exact ⟨rfl, Below.refl _ _⟩))
  go_wp2_with fail
  refine (T.out).mono ?_
  rintro e w6 ⟨rfl, K'⟩
  replace KB := Below.then_ KB K'
  replace H := H.below KB
  replace hA := hA.below KB
  replace K := Below.then_ K KB
  clear KB K' B T
  have B := Bk.new w6 #[.int .i64 1, .int .i64 5] 3
  have KB := below_alloc w6 (.cells #[.int .i64 1, .int .i64 5] 3)
  have T := mhas_any (IS.lit (n := 2) [1, 5] B (by rfl) (by omega)) (by omega) (ris_dec (by decide +kernel)) 3
  rw [show hasB [1, 5] 3 = false by decide +kernel] at T
  replace T := Lib.hid (T.mono (R' := RetBo false _) (by rintro e _ ⟨rfl, rfl⟩; exact ⟨rfl, Below.refl _ _⟩))
  go_wp2_with fail
  refine (T.out).mono ?_
  rintro e w7 ⟨rfl, K'⟩
  replace KB := Below.then_ KB K'
  replace H := H.below KB
  replace hA := hA.below KB
  replace K := Below.then_ K KB
  clear KB K' B T
  have H_0 := H.at_ (v := .int .u32 167772160) 0 rfl
  have H_1 := H.at_ (v := .int .i64 30) 1 rfl
  have H_2 := H.at_ (v := .slice (some ⟨gA, 0, none⟩) 1 1) 2 rfl
  have H_3 := H.at_ (v := .int .i64 1) 3 rfl
  have H_4 := H.at_ (v := .int .i64 1) 4 rfl
  have H_5 := H.at_ (v := .int .i64 1) 5 rfl
  have H_6 := H.at_ (v := .int .i64 1) 6 rfl
  have H_z := H.lt
  have B := Bk.new w7 #[.int .i64 1, .int .i64 3] 3
  have KB := below_alloc w7 (.cells #[.int .i64 1, .int .i64 3] 3)
  have T := mmay_any (a := 167772160) (p := 30) (M := 4) (sh := 1) (wo := 1) (qu := 1) (tr := 1) (by omega) much30 (hA.below KB) (by omega) (IS.lit (n := 2) [1, 3] B (by rfl) (by omega)) (by omega)
  rw [show mayR ((4 : Nat) : Int) [0] 0 [1, 3] = true by decide +kernel] at T
  replace T := Lib.hid T
  go_wp2_with fail
  refine (T.out).mono ?_
  clear H_0 H_1 H_2 H_3 H_4 H_5 H_6 H_z
  rintro e w8 ⟨rfl, K'⟩
  replace KB := Below.then_ KB K'
  replace H := H.below KB
  replace hA := hA.below KB
  replace K := Below.then_ K KB
  clear KB K' B T
  have H_0 := H.at_ (v := .int .u32 167772160) 0 rfl
  have H_1 := H.at_ (v := .int .i64 30) 1 rfl
  have H_2 := H.at_ (v := .slice (some ⟨gA, 0, none⟩) 1 1) 2 rfl
  have H_3 := H.at_ (v := .int .i64 1) 3 rfl
  have H_4 := H.at_ (v := .int .i64 1) 4 rfl
  have H_5 := H.at_ (v := .int .i64 1) 5 rfl
  have H_6 := H.at_ (v := .int .i64 1) 6 rfl
  have H_z := H.lt
  have B := Bk.new w8 #[.int .i64 0] 3
  have KB := below_alloc w8 (.cells #[.int .i64 0] 3)
  have T := mmay_any (a := 167772160) (p := 30) (M := 4) (sh := 1) (wo := 1) (qu := 1) (tr := 1) (by omega) much30 (hA.below KB) (by omega) (IS.lit (n := 1) [0] B (by rfl) (by omega)) (by omega)
  rw [show mayR ((4 : Nat) : Int) [0] 0 [0] = false by decide +kernel] at T
  replace T := Lib.hid T
  go_wp2_with fail
  refine (T.out).mono ?_
  clear H_0 H_1 H_2 H_3 H_4 H_5 H_6 H_z
  rintro e w9 ⟨rfl, K'⟩
  replace KB := Below.then_ KB K'
  replace H := H.below KB
  replace hA := hA.below KB
  replace K := Below.then_ K KB
  clear KB K' B T
  have H_0 := H.at_ (v := .int .u32 167772160) 0 rfl
  have H_1 := H.at_ (v := .int .i64 30) 1 rfl
  have H_2 := H.at_ (v := .slice (some ⟨gA, 0, none⟩) 1 1) 2 rfl
  have H_3 := H.at_ (v := .int .i64 1) 3 rfl
  have H_4 := H.at_ (v := .int .i64 1) 4 rfl
  have H_5 := H.at_ (v := .int .i64 1) 5 rfl
  have H_6 := H.at_ (v := .int .i64 1) 6 rfl
  have H_z := H.lt
  have B := Bk.new w9 #[.int .i64 2, .int .i64 1] 3
  have KB := below_alloc w9 (.cells #[.int .i64 2, .int .i64 1] 3)
  have T := mmay_any (a := 167772160) (p := 30) (M := 4) (sh := 1) (wo := 1) (qu := 1) (tr := 1) (by omega) much30 (hA.below KB) (by omega) (IS.lit (n := 2) [2, 1] B (by rfl) (by omega)) (by omega)
  rw [show mayR ((4 : Nat) : Int) [0] 0 [2, 1] = false by decide +kernel] at T
  replace T := Lib.hid T
  go_wp2_with fail
  refine (T.out).mono ?_
  clear H_0 H_1 H_2 H_3 H_4 H_5 H_6 H_z
  rintro e w10 ⟨rfl, K'⟩
  replace KB := Below.then_ KB K'
  replace H := H.below KB
  replace hA := hA.below KB
  replace K := Below.then_ K KB
  clear KB K' B T
  have H_0 := H.at_ (v := .int .u32 167772160) 0 rfl
  have H_1 := H.at_ (v := .int .i64 30) 1 rfl
  have H_2 := H.at_ (v := .slice (some ⟨gA, 0, none⟩) 1 1) 2 rfl
  have H_3 := H.at_ (v := .int .i64 1) 3 rfl
  have H_4 := H.at_ (v := .int .i64 1) 4 rfl
  have H_5 := H.at_ (v := .int .i64 1) 5 rfl
  have H_6 := H.at_ (v := .int .i64 1) 6 rfl
  have H_z := H.lt
  have B := Bk.new w10 #[.int .i64 1, .int .i64 2, .int .i64 3] 3
  have KB := below_alloc w10 (.cells #[.int .i64 1, .int .i64 2, .int .i64 3] 3)
  have T := mfull_any (a := 167772160) (p := 30) (M := 4) (sh := 1) (wo := 1) (qu := 1) (tr := 1) (by omega) much30 (hA.below KB) (by omega) (by decide +kernel) (IS.lit (n := 3) [1, 2, 3] B (by rfl) (by omega)) (by decide +kernel)
  rw [show fullB 4 [0] [1, 2, 3] = true by decide +kernel] at T
  replace T := Lib.hid T
  go_wp2_with fail
  refine (T.out).mono ?_
  clear H_0 H_1 H_2 H_3 H_4 H_5 H_6 H_z
  rintro e w11 ⟨rfl, K'⟩
  replace KB := Below.then_ KB K'
  replace H := H.below KB
  replace hA := hA.below KB
  replace K := Below.then_ K KB
  clear KB K' B T
  have H_0 := H.at_ (v := .int .u32 167772160) 0 rfl
  have H_1 := H.at_ (v := .int .i64 30) 1 rfl
  have H_2 := H.at_ (v := .slice (some ⟨gA, 0, none⟩) 1 1) 2 rfl
  have H_3 := H.at_ (v := .int .i64 1) 3 rfl
  have H_4 := H.at_ (v := .int .i64 1) 4 rfl
  have H_5 := H.at_ (v := .int .i64 1) 5 rfl
  have H_6 := H.at_ (v := .int .i64 1) 6 rfl
  have H_z := H.lt
  have B := Bk.new w11 #[.int .i64 1, .int .i64 2] 3
  have KB := below_alloc w11 (.cells #[.int .i64 1, .int .i64 2] 3)
  have T := mfull_any (a := 167772160) (p := 30) (M := 4) (sh := 1) (wo := 1) (qu := 1) (tr := 1) (by omega) much30 (hA.below KB) (by omega) (by decide +kernel) (IS.lit (n := 2) [1, 2] B (by rfl) (by omega)) (by decide +kernel)
  rw [show fullB 4 [0] [1, 2] = false by decide +kernel] at T
  replace T := Lib.hid T
  go_wp2_with fail
  refine (T.out).mono ?_
  clear H_0 H_1 H_2 H_3 H_4 H_5 H_6 H_z
  rintro e w12 ⟨rfl, K'⟩
  replace KB := Below.then_ KB K'
  replace H := H.below KB
  replace hA := hA.below KB
  replace K := Below.then_ K KB
  clear KB K' B T
  have H_0 := H.at_ (v := .int .u32 167772160) 0 rfl
  have H_1 := H.at_ (v := .int .i64 30) 1 rfl
  have H_2 := H.at_ (v := .slice (some ⟨gA, 0, none⟩) 1 1) 2 rfl
  have H_3 := H.at_ (v := .int .i64 1) 3 rfl
  have H_4 := H.at_ (v := .int .i64 1) 4 rfl
  have H_5 := H.at_ (v := .int .i64 1) 5 rfl
  have H_6 := H.at_ (v := .int .i64 1) 6 rfl
  have H_z := H.lt
  have B := Bk.new w12 #[.int .u64 4294967285, .int .u64 0, .int .u64 0] 45
  have KB := below_alloc w12 (.cells #[.int .u64 4294967285, .int .u64 0, .int .u64 0] 45)
  have U : Blk (w12.alloc (.cells #[.int .u64 4294967285, .int .u64 0, .int .u64 0] 45)) w12.heap.size 45 [4294967285, 0, 0] := B
  have T := Lib.hid (mof_any (a := 167772160) (p := 30) (M := 4) (sh := 1) (wo := 1) (qu := 1) (tr := 1) (by omega) much30 (hA.below KB) (by omega) (by decide +kernel) (U.us (n := 3) (by decide) (by rfl) (by omega)) (by decide) (by omega))
  go_wp2_with fail
  refine (T.out).mono ?_
  clear H_0 H_1 H_2 H_3 H_4 H_5 H_6 H_z
  rintro e w13 ⟨A, n, c, rfl, I, K'⟩
  replace KB := Below.then_ KB K'
  replace H := H.below KB
  replace hA := hA.below KB
  replace K := Below.then_ K KB
  clear KB K' B T
  rw [show os (uf [0] [4294967285, 0, 0]) 4 = [2] by decide +kernel] at I
  obtain rfl : 1 = n := I.len
  have B := Bk.new w13 #[.int .i64 2] 3
  have KB := below_alloc w13 (.cells #[.int .i64 2] 3)
  have T := Lib.hid (ints_same (I.below KB) (IS.lit (n := 1) [2] B (by rfl) (by omega)) (by omega))
  go_wp2_with fail
  refine (T.out).mono ?_
  rintro e w14 ⟨rfl, K'⟩
  replace KB := Below.then_ KB K'
  replace H := H.below KB
  replace hA := hA.below KB
  replace K := Below.then_ K KB
  clear KB K' B T
  clear I
  have H_0 := H.at_ (v := .int .u32 167772160) 0 rfl
  have H_1 := H.at_ (v := .int .i64 30) 1 rfl
  have H_2 := H.at_ (v := .slice (some ⟨gA, 0, none⟩) 1 1) 2 rfl
  have H_3 := H.at_ (v := .int .i64 1) 3 rfl
  have H_4 := H.at_ (v := .int .i64 1) 4 rfl
  have H_5 := H.at_ (v := .int .i64 1) 5 rfl
  have H_6 := H.at_ (v := .int .i64 1) 6 rfl
  have H_z := H.lt
  have B := Bk.new w14 #[.int .i64 2] 3
  have KB := below_alloc w14 (.cells #[.int .i64 2] 3)
  have T := Lib.hid (maddrs_any (a := 167772160) (p := 30) (sh := 1) (wo := 1) (qu := 1) (tr := 1) (A := some ⟨gA, 0, none⟩) (n := 1) (c := 1) (IS.lit (n := 1) [2] B (by rfl) (by omega)) (by omega) (by decide))
  go_wp2_with fail
  refine (T.out).mono ?_
  clear H_0 H_1 H_2 H_3 H_4 H_5 H_6 H_z
  rintro e w15 ⟨g, rfl, _, I, K'⟩
  replace KB := Below.then_ KB K'
  replace H := H.below KB
  replace hA := hA.below KB
  replace K := Below.then_ K KB
  clear KB K' B T
  rw [show ads 167772160 [2] = [167772162] by decide +kernel] at I
  have B := Bk.new w15 #[.int .u32 167772162] 22
  have KB := below_alloc w15 (.cells #[.int .u32 167772162] 22)
  have T := Lib.hid (addrs_same ((I.is (n := 1) (by rfl) (by omega)).below KB) (IS.lit (n := 1) [167772162] B (by rfl) (by omega)) (by omega))
  go_wp2_with fail
  refine (T.out).mono ?_
  rintro e w16 ⟨rfl, K'⟩
  replace KB := Below.then_ KB K'
  replace H := H.below KB
  replace hA := hA.below KB
  replace K := Below.then_ K KB
  clear KB K' B T
  clear I
  go_wp2
  go_ret
  exact ⟨rfl, K⟩
end Go.Proofs.Ythnmneinimlpcaa
