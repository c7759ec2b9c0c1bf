/-
  The anchor of layer 10's laws answers true.
-/
import Derived.Test.YtfjnlackbmdncaaDoorAskSame
import Derived.Deep.WholeRow
namespace Go.Proofs.YtfjnlackbmdncaaDoor
open Go.RowKit
theorem much30 : Much 0 30 4 := ⟨by decide +kernel, by decide +kernel⟩
theorem w32_dec {ys : List Int} (h : (ys.all fun y => decide (0 ≤ y) && decide (y < 4294967296)) = true) : W32 ys := by
  intro y hy
  have := List.all_eq_true.1 h y hy
  simpa using this
section
variable {w : World} {lo lo2 a M m d X : Nat} {p sh wo qu tr k : Int} {A B : Option Addr} {n c : Nat} {zs ys : List Int}
theorem check_is {v : Int} (hL : Laid w) (ha : a < 4294967296) (hM : Much a p M) (h : IS .i64 lo w A n c zs) (hn : n ≤ 65536) (hs : IS .u32 lo2 w B m d ys) (hm : m ≤ 60000) (hX : X < 4294967296) (hw : W32 ys) (hv : askE a M zs k X ys = v) :
    Calls Tryd.prog 11 #[.agg #[.int .u32 a, .int .i64 p, .slice A n c, .int .i64 sh, .int .i64 wo, .int .i64 qu, .int .i64 tr], .agg #[.int .i64 k, .int .u32 (X : Int), .slice B m d]] w fun e w' => e = .returned (.int .i64 v) ∧ Below w.heap.size w w' := by
  subst hv; exact check_any hL ha hM h hn hs hm hX hw
theorem check_at {x v : Int} (hL : Laid w) (ha : a < 4294967296) (hM : Much a p M) (h : IS .i64 lo w A n c zs) (hn : n ≤ 65536) (hs : IS .u32 lo2 w B m d ys) (hm : m ≤ 60000) (hx : x = X) (hX : X < 4294967296) (hw : W32 ys) (hv : askE a M zs k X ys = v) :
    Calls Tryd.prog 11 #[.agg #[.int .u32 a, .int .i64 p, .slice A n c, .int .i64 sh, .int .i64 wo, .int .i64 qu, .int .i64 tr], .agg #[.int .i64 k, .int .u32 x, .slice B m d]] w fun e w' => e = .returned (.int .i64 v) ∧ Below w.heap.size w w' := by
  subst hx; exact check_is hL ha hM h hn hs hm hX hw hv
theorem raddrs_is {A' : Option Addr} {n' c' : Nat} {xs' : List Int} {b : Bool} (h : IS .u32 lo w A n c zs) (h' : IS .u32 lo2 w A' n' c' xs') (hn : n ≤ 65536) (hn' : n' ≤ 65536) (hb : decide (zs = xs') = b) :
    Calls Tryd.prog 13 #[.slice A n c, .slice A' n' c'] w (RetBo b w) := by
  subst hb; exact raddrs_any h h' hn hn'
theorem aw_check {X : Nat} {v k x : Int} {gA : Nat} (hL : Laid w) (h : IS .i64 0 w (some ⟨gA, 0, none⟩) 1 1 [0]) (hs : IS .u32 lo2 w B m d ys) (hm : m ≤ 60000) (hx : x = X) (hX : X < 4294967296) (hw : W32 ys) (hv : askE 0 4 [0] k X ys = v) :
    Calls Tryd.prog 11 #[.agg #[.int .u32 0, .int .i64 30, .slice (some ⟨gA, 0, none⟩) 1 1, .int .i64 1, .int .i64 1, .int .i64 1, .int .i64 1], .agg #[.int .i64 k, .int .u32 x, .slice B m d]] w fun e w' => e = .returned (.int .i64 v) ∧ Below w.heap.size w w' := by
  subst hx; exact check_is (a := 0) hL (by omega) much30 h (by omega) hs hm hX hw hv
end
set_option maxRecDepth 100000 in
set_option maxHeartbeats 4000000 in
theorem awake_any (w : World) (hL : Laid w) : Calls Tryd.prog 8 #[] w (RetBo true w) := by
  go_enter Tryd.func8, Tryd.ntmps8
  have K := below_alloc w (.cells #[.int .i64 0] 3)
  have A0 := Bk.new w #[.int .i64 0] 3
  go_upto_region 2 with (refine wpList_store_row rfl 27 (.tmp 1) (.tmp 4) rfl _ _ rfl (show _ = Value.agg #[.int .u32 0, .int .i64 30, .slice (some ⟨w.heap.size, 0, none⟩) 1 1, .int .i64 1, .int .i64 1, .int .i64 1, .int .i64 1] from rfl) _ _ (Bk.new _ _ _) cf_sz rfl (by simp [Value.oneCell']) ?_)
  have H : Bk ((w.alloc (.cells #[.int .i64 0] 3)).alloc (.cells #[.int .u32 0, .int .i64 30, .slice (some ⟨w.heap.size, 0, none⟩) 1 1, .int .i64 1, .int .i64 1, .int .i64 1, .int .i64 1] 27)) (w.alloc (.cells #[.int .i64 0] 3)).heap.size 27 #[.int .u32 0, .int .i64 30, .slice (some ⟨w.heap.size, 0, none⟩) 1 1, .int .i64 1, .int .i64 1, .int .i64 1, .int .i64 1] := Bk.new _ _ _
  replace A0 := A0.alloc (.cells #[.int .u32 0, .int .i64 30, .slice (some ⟨w.heap.size, 0, none⟩) 1 1, .int .i64 1, .int .i64 1, .int .i64 1, .int .i64 1] 27)
  replace K := Below.then_ K (below_alloc _ (.cells #[.int .u32 0, .int .i64 30, .slice (some ⟨w.heap.size, 0, none⟩) 1 1, .int .i64 1, .int .i64 1, .int .i64 1, .int .i64 1] 27))
  replace hL := hL.below K
  generalize (w.alloc (.cells #[.int .i64 0] 3)).alloc (.cells #[.int .u32 0, .int .i64 30, .slice (some ⟨w.heap.size, 0, none⟩) 1 1, .int .i64 1, .int .i64 1, .int .i64 1, .int .i64 1] 27) = w1 at H A0 K hL ⊢
  simp only [World.size_alloc] at H ⊢
  obtain ⟨gH, hgH⟩ : ∃ x, x = w.heap.size + 1 := ⟨_, rfl⟩
  rw [← hgH] at H ⊢
  clear hgH
  obtain ⟨gA, hgA⟩ : ∃ x, x = w.heap.size := ⟨_, rfl⟩
  rw [← hgA] at H A0 ⊢
  clear hgA
  have hA := IS.lit (k := .i64) (n := 1) [0] A0 (by rfl) (by omega)
  clear A0
  have T := Lib.hid (aw_check (X := 0) (k := 1) hL hA (IS.none_ .u32 0 _) (by omega) (by rfl) (by omega) (w32_dec (by decide +kernel)) (by decide +kernel : askE 0 4 [0] 1 (0 : Nat) [] = 0))
  have H_0 := H.at_ (v := .int .u32 0) 0 rfl
  have H_1 := H.at_ (v := .int .i64 30) 1 rfl
  have H_2 := H.at_ (v := .slice (some ⟨gA, 0, none⟩) 1 1) 2 rfl
  have H_3 := H.at_ (v := .int .i64 1) 3 rfl
  have H_4 := H.at_ (v := .int .i64 1) 4 rfl
  have H_5 := H.at_ (v := .int .i64 1) 5 rfl
  have H_6 := H.at_ (v := .int .i64 1) 6 rfl
  have H_z := H.lt
  go_wp2_with fail
  refine (T.out).mono ?_
  rintro e w2 ⟨rfl, K'⟩
  clear H_0 H_1 H_2 H_3 H_4 H_5 H_6 H_z
  clear T
  replace H := H.below K'
  replace hL := hL.below K'
  replace hA := hA.below K'
  replace K := Below.then_ K K'
  clear K'
  have T := Lib.hid (aw_check (X := 0) (k := 0) hL hA (IS.none_ .u32 0 _) (by omega) (by rfl) (by omega) (w32_dec (by decide +kernel)) (by decide +kernel : askE 0 4 [0] 0 (0 : Nat) [] = 1))
  have H_0 := H.at_ (v := .int .u32 0) 0 rfl
  have H_1 := H.at_ (v := .int .i64 30) 1 rfl
  have H_2 := H.at_ (v := .slice (some ⟨gA, 0, none⟩) 1 1) 2 rfl
  have H_3 := H.at_ (v := .int .i64 1) 3 rfl
  have H_4 := H.at_ (v := .int .i64 1) 4 rfl
  have H_5 := H.at_ (v := .int .i64 1) 5 rfl
  have H_6 := H.at_ (v := .int .i64 1) 6 rfl
  have H_z := H.lt
  go_wp2_with fail
  refine (T.out).mono ?_
  rintro e w3 ⟨rfl, K'⟩
  clear H_0 H_1 H_2 H_3 H_4 H_5 H_6 H_z
  clear T
  replace H := H.below K'
  replace hL := hL.below K'
  replace hA := hA.below K'
  replace K := Below.then_ K K'
  clear K'
  have T := Lib.hid (aw_check (X := 0) (k := 2) hL hA (IS.none_ .u32 0 _) (by omega) (by rfl) (by omega) (w32_dec (by decide +kernel)) (by decide +kernel : askE 0 4 [0] 2 (0 : Nat) [] = 4))
  have H_0 := H.at_ (v := .int .u32 0) 0 rfl
  have H_1 := H.at_ (v := .int .i64 30) 1 rfl
  have H_2 := H.at_ (v := .slice (some ⟨gA, 0, none⟩) 1 1) 2 rfl
  have H_3 := H.at_ (v := .int .i64 1) 3 rfl
  have H_4 := H.at_ (v := .int .i64 1) 4 rfl
  have H_5 := H.at_ (v := .int .i64 1) 5 rfl
  have H_6 := H.at_ (v := .int .i64 1) 6 rfl
  have H_z := H.lt
  go_wp2_with fail
  refine (T.out).mono ?_
  rintro e w4 ⟨rfl, K'⟩
  clear H_0 H_1 H_2 H_3 H_4 H_5 H_6 H_z
  clear T
  replace H := H.below K'
  replace hL := hL.below K'
  replace hA := hA.below K'
  replace K := Below.then_ K K'
  clear K'
  have T := Lib.hid (aw_check (X := 4) (k := 3) hL hA (IS.none_ .u32 0 _) (by omega) (by rfl) (by omega) (w32_dec (by decide +kernel)) (by decide +kernel : askE 0 4 [0] 3 (4 : Nat) [] = 3))
  have H_0 := H.at_ (v := .int .u32 0) 0 rfl
  have H_1 := H.at_ (v := .int .i64 30) 1 rfl
  have H_2 := H.at_ (v := .slice (some ⟨gA, 0, none⟩) 1 1) 2 rfl
  have H_3 := H.at_ (v := .int .i64 1) 3 rfl
  have H_4 := H.at_ (v := .int .i64 1) 4 rfl
  have H_5 := H.at_ (v := .int .i64 1) 5 rfl
  have H_6 := H.at_ (v := .int .i64 1) 6 rfl
  have H_z := H.lt
  go_wp2_with fail
  refine (T.out).mono ?_
  rintro e w5 ⟨rfl, K'⟩
  clear H_0 H_1 H_2 H_3 H_4 H_5 H_6 H_z
  clear T
  replace H := H.below K'
  replace hL := hL.below K'
  replace hA := hA.below K'
  replace K := Below.then_ K K'
  clear K'
  have T := Lib.hid (aw_check (X := 0) (k := 4) hL hA (IS.none_ .u32 0 _) (by omega) (by rfl) (by omega) (w32_dec (by decide +kernel)) (by decide +kernel : askE 0 4 [0] 4 (0 : Nat) [] = 7))
  have H_0 := H.at_ (v := .int .u32 0) 0 rfl
  have H_1 := H.at_ (v := .int .i64 30) 1 rfl
  have H_2 := H.at_ (v := .slice (some ⟨gA, 0, none⟩) 1 1) 2 rfl
  have H_3 := H.at_ (v := .int .i64 1) 3 rfl
  have H_4 := H.at_ (v := .int .i64 1) 4 rfl
  have H_5 := H.at_ (v := .int .i64 1) 5 rfl
  have H_6 := H.at_ (v := .int .i64 1) 6 rfl
  have H_z := H.lt
  go_wp2_with fail
  refine (T.out).mono ?_
  rintro e w6 ⟨rfl, K'⟩
  clear H_0 H_1 H_2 H_3 H_4 H_5 H_6 H_z
  clear T
  replace H := H.below K'
  replace hL := hL.below K'
  replace hA := hA.below K'
  replace K := Below.then_ K K'
  clear K'
  have KB := below_alloc w6 (.cells #[.int .u32 1, .int .u32 2, .int .u32 1] 22)
  have B := IS.lit (n := 3) [1, 2, 1] (Bk.new w6 #[.int .u32 1, .int .u32 2, .int .u32 1] 22) (by rfl) (by omega)
  have T := Lib.hid (aw_check (X := 0) (k := 4) (hL.below KB) (hA.below KB) B (by omega) (by rfl) (by omega) (w32_dec (by decide +kernel)) (by decide +kernel : askE 0 4 [0] 4 (0 : Nat) [1, 2, 1] = 8))
  have H_0 := H.at_ (v := .int .u32 0) 0 rfl
  have H_1 := H.at_ (v := .int .i64 30) 1 rfl
  have H_2 := H.at_ (v := .slice (some ⟨gA, 0, none⟩) 1 1) 2 rfl
  have H_3 := H.at_ (v := .int .i64 1) 3 rfl
  have H_4 := H.at_ (v := .int .i64 1) 4 rfl
  have H_5 := H.at_ (v := .int .i64 1) 5 rfl
  have H_6 := H.at_ (v := .int .i64 1) 6 rfl
  have H_z := H.lt
  go_wp2_with fail
  refine (T.out).mono ?_
  rintro e w7 ⟨rfl, K'⟩
  clear H_0 H_1 H_2 H_3 H_4 H_5 H_6 H_z
  replace K' := Below.then_ KB K'
  clear KB B
  clear T
  replace H := H.below K'
  replace hL := hL.below K'
  replace hA := hA.below K'
  replace K := Below.then_ K K'
  clear K'
  have KB := below_alloc w7 (.cells #[.int .u32 1, .int .u32 2] 22)
  have B := IS.lit (n := 2) [1, 2] (Bk.new w7 #[.int .u32 1, .int .u32 2] 22) (by rfl) (by omega)
  have T := Lib.hid (aw_check (X := 0) (k := 4) (hL.below KB) (hA.below KB) B (by omega) (by rfl) (by omega) (w32_dec (by decide +kernel)) (by decide +kernel : askE 0 4 [0] 4 (0 : Nat) [1, 2] = 0))
  have H_0 := H.at_ (v := .int .u32 0) 0 rfl
  have H_1 := H.at_ (v := .int .i64 30) 1 rfl
  have H_2 := H.at_ (v := .slice (some ⟨gA, 0, none⟩) 1 1) 2 rfl
  have H_3 := H.at_ (v := .int .i64 1) 3 rfl
  have H_4 := H.at_ (v := .int .i64 1) 4 rfl
  have H_5 := H.at_ (v := .int .i64 1) 5 rfl
  have H_6 := H.at_ (v := .int .i64 1) 6 rfl
  have H_z := H.lt
  go_wp2_with fail
  refine (T.out).mono ?_
  rintro e w8 ⟨rfl, K'⟩
  clear H_0 H_1 H_2 H_3 H_4 H_5 H_6 H_z
  replace K' := Below.then_ KB K'
  clear KB B
  clear T
  replace H := H.below K'
  replace hL := hL.below K'
  replace hA := hA.below K'
  replace K := Below.then_ K K'
  clear K'
  have T := Lib.hid (names_any (k := 5) (x := 3) hL (IS.none_ .u32 0 _) (by omega))
  go_wp2_with fail
  refine (T.out).mono ?_
  rintro e w9 ⟨NA, Nn, Nc, rfl, R, K'⟩
  clear T
  replace H := H.below K'
  replace hL := hL.below K'
  replace hA := hA.below K'
  replace K := Below.then_ K K'
  clear K'
  rw [nmI_one (by omega)] at R
  replace R := R.is
  obtain rfl : 1 = Nn := R.len
  have KB := below_alloc w9 (.cells #[.int .u32 3] 22)
  have B := IS.lit (n := 1) [3] (Bk.new w9 #[.int .u32 3] 22) (by rfl) (by omega)
  have T0 := raddrs_any (R.below KB) B (by omega) (by omega)
  rw [show decide (([3] : List Int) = [3]) = true from rfl] at T0
  have T := Lib.hid (T0)
  go_wp2_with fail
  refine (T.out).mono ?_
  rintro e w10 ⟨rfl, K'⟩
  replace K' := Below.then_ KB K'
  clear KB B
  clear T
  replace H := H.below K'
  replace hL := hL.below K'
  replace hA := hA.below K'
  replace K := Below.then_ K K'
  clear K' T0 R
  have KB := below_alloc w10 (.cells #[.int .u32 1] 22)
  have B := IS.lit (n := 1) [1] (Bk.new w10 #[.int .u32 1] 22) (by rfl) (by omega)
  have T0 := same_any (k := 0) (x := 0) (k2 := 0) (x2 := 0) B (IS.none_ .u32 0 _) (by omega) (by omega)
  rw [show sameB 0 0 [1] 0 0 [] = false by decide +kernel] at T0
  have T := Lib.hid (T0)
  go_wp2_with fail
  refine (T.out).mono ?_
  rintro e w11 ⟨rfl, K'⟩
  replace K' := Below.then_ KB K'
  clear KB B
  clear T
  replace H := H.below K'
  replace hL := hL.below K'
  replace hA := hA.below K'
  replace K := Below.then_ K K'
  clear K' T0
  have T0 := same_any (w := w11) (k := 0) (x := 1) (k2 := 0) (x2 := 1) (IS.none_ .u32 0 _) (IS.none_ .u32 0 _) (by omega) (by omega)
  rw [show sameB 0 1 [] 0 1 [] = true by decide +kernel] at T0
  have T := Lib.hid (T0)
  go_wp2_with fail
  refine (T.out).mono ?_
  rintro e w12 ⟨rfl, K'⟩
  clear T
  replace H := H.below K'
  replace hL := hL.below K'
  replace hA := hA.below K'
  replace K := Below.then_ K K'
  clear K' T0
  go_wp2
  go_ret
  exact ⟨rfl, K⟩
end Go.Proofs.YtfjnlackbmdncaaDoor
