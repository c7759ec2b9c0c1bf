/-
  What hint.own answers: the operation, with four lists of its own. Conditions: at most 65536 items a list.
-/
import Derived.Test.YtafdlofmgefdoaaHintClone
import Derived.Deep.Cut
namespace Go.Proofs.Ytafdlofmgefdoaa
open Go.RowKit
def RetOwn (h : Hd) (s : Sc) (l : Ls) (w : World) (e : Ending) (w' : World) : Prop := ∃ A0 c0 A1 c1 A2 c2 A3 c3, e = .returned (.agg (opv ⟨A0, h.n0, c0, A1, h.n1, c1, A2, h.n2, c2, A3, h.n3, c3⟩ s)) ∧ Lists w.heap.size w' ⟨A0, h.n0, c0, A1, h.n1, c1, A2, h.n2, c2, A3, h.n3, c3⟩ l ∧ Below w.heap.size w w'
set_option maxHeartbeats 1000000 in
theorem own_any {w : World} {lo : Nat} {h : Hd} {s : Sc} {l : Ls} (L : Lists lo w h l) (h0 : h.n0 ≤ 65536) (h1 : h.n1 ≤ 65536) (h2 : h.n2 ≤ 65536) (h3 : h.n3 ≤ 65536) :
    Calls Try.prog 24 #[.agg (opv h s)] w (RetOwn h s l w) := by
  go_enter Try.func24, Try.ntmps24
  go_upto_region 1 with (fail)
  have K := below_alloc w (.cells (opv h s) 42)
  have O : Bk (World.alloc (w) (.cells (opv h s) 42)) (World.heap (w)).size 42 (opv h s) := Bk.new _ _ _
  replace O := O.alloc (.cells #[.int .i64 0, .int .u32 0, .slice none 0 0, .int .i64 0, .int .u32 0, .bool false, .slice none 0 0, .slice none 0 0, .int .i64 0, .int .i64 0, .int .i64 0, .int .i64 0, .int .i64 0, .int .u64 0, .bool false, .slice none 0 0, .int .i64 0, .int .i64 0, .int .i64 0, .int .i64 0] 42)
  replace K := Below.then_ K (below_alloc _ (.cells #[.int .i64 0, .int .u32 0, .slice none 0 0, .int .i64 0, .int .u32 0, .bool false, .slice none 0 0, .slice none 0 0, .int .i64 0, .int .i64 0, .int .i64 0, .int .i64 0, .int .i64 0, .int .u64 0, .bool false, .slice none 0 0, .int .i64 0, .int .i64 0, .int .i64 0, .int .i64 0] 42))
  have R : Bk (World.alloc ((w).alloc (.cells (opv h s) 42)) (.cells #[.int .i64 0, .int .u32 0, .slice none 0 0, .int .i64 0, .int .u32 0, .bool false, .slice none 0 0, .slice none 0 0, .int .i64 0, .int .i64 0, .int .i64 0, .int .i64 0, .int .i64 0, .int .u64 0, .bool false, .slice none 0 0, .int .i64 0, .int .i64 0, .int .i64 0, .int .i64 0] 42)) (World.heap ((w).alloc (.cells (opv h s) 42))).size 42 (opv hd0 sc0) := Bk.new _ _ _
  try simp only [World.size_alloc] at O R
  generalize ((w).alloc (.cells (opv h s) 42)).alloc (.cells #[.int .i64 0, .int .u32 0, .slice none 0 0, .int .i64 0, .int .u32 0, .bool false, .slice none 0 0, .slice none 0 0, .int .i64 0, .int .i64 0, .int .i64 0, .int .i64 0, .int .i64 0, .int .u64 0, .bool false, .slice none 0 0, .int .i64 0, .int .i64 0, .int .i64 0, .int .i64 0] 42) = w1 at O R K ⊢
  obtain ⟨gR, hgR⟩ : ∃ g, g = w.heap.size + 1 := ⟨_, rfl⟩
  rw [← hgR] at R ⊢
  obtain ⟨gO, hgO⟩ : ∃ g, g = w.heap.size := ⟨_, rfl⟩
  rw [← hgO] at O ⊢
  have O_b : w.heap.size ≤ gO := by omega
  have R_b : w.heap.size ≤ gR := by omega
  have ne_O_R : gO ≠ gR := by omega
  clear hgO hgR
  have hlt := R.lt
  have O_2 := O.at_ (v := .slice h.A0 h.n0 h.c0) 2 rfl
  have O_z := O.lt
  go_wp2_with fail
  refine (clone32_any (L.i0.below K) h0).mono ?_
  have KS0 := K.size
  rintro e w2 ⟨A0, c0, rfl, I0, K'⟩
  clear O_2 O_z
  have lo0 : gO < w1.heap.size := O.lt
  have lr0 : gR < w1.heap.size := R.lt
  replace O := O.below K'
  replace R := R.below K'
  replace K := Below.then_ K K'
  clear K'
  have O_2 := O.at_ (v := .slice h.A0 h.n0 h.c0) 2 rfl
  have O_z := O.lt
  have O_f2 := O.fz 2
  go_upto_region 2 with (fail)
  replace R := R.far (p := ⟨gO, 2, none⟩) (Ne.symm ne_O_R) (.slice A0 h.n0 c0)
  replace O := O.set_ 2 (.slice A0 h.n0 c0)
  replace I0 := I0.set_low (p := ⟨gO, 2, none⟩) lo0 (.slice A0 h.n0 c0)
  replace K := K.setCell (p := ⟨gO, 2, none⟩) O_b (.slice A0 h.n0 c0)
  replace O : Bk ((w2).setCell ⟨gO, 2, none⟩ (.slice A0 h.n0 c0)) gO 42 (opv ⟨A0, h.n0, c0, h.A1, h.n1, h.c1, h.A2, h.n2, h.c2, h.A3, h.n3, h.c3⟩ s) := O
  clear O_2 O_z O_f2
  generalize (w2).setCell ⟨gO, 2, none⟩ (.slice A0 h.n0 c0) = w3 at O R I0 K ⊢
  have O_6 := O.at_ (v := .slice h.A1 h.n1 h.c1) 6 rfl
  have O_z := O.lt
  go_wp2_with fail
  refine (clone32_any (L.i1.below K) h1).mono ?_
  have KS1 := K.size
  rintro e w4 ⟨A1, c1, rfl, I1, K'⟩
  clear O_6 O_z
  have lo1 : gO < w3.heap.size := O.lt
  have lr1 : gR < w3.heap.size := R.lt
  replace O := O.below K'
  replace R := R.below K'
  replace I0 := I0.below K'
  replace K := Below.then_ K K'
  clear K'
  have O_6 := O.at_ (v := .slice h.A1 h.n1 h.c1) 6 rfl
  have O_z := O.lt
  have O_f6 := O.fz 6
  go_upto_region 3 with (fail)
  replace R := R.far (p := ⟨gO, 6, none⟩) (Ne.symm ne_O_R) (.slice A1 h.n1 c1)
  replace O := O.set_ 6 (.slice A1 h.n1 c1)
  replace I0 := I0.set_low (p := ⟨gO, 6, none⟩) lo0 (.slice A1 h.n1 c1)
  replace I1 := I1.set_low (p := ⟨gO, 6, none⟩) lo1 (.slice A1 h.n1 c1)
  replace K := K.setCell (p := ⟨gO, 6, none⟩) O_b (.slice A1 h.n1 c1)
  replace O : Bk ((w4).setCell ⟨gO, 6, none⟩ (.slice A1 h.n1 c1)) gO 42 (opv ⟨A0, h.n0, c0, A1, h.n1, c1, h.A2, h.n2, h.c2, h.A3, h.n3, h.c3⟩ s) := O
  clear O_6 O_z O_f6
  generalize (w4).setCell ⟨gO, 6, none⟩ (.slice A1 h.n1 c1) = w5 at O R I0 I1 K ⊢
  have O_7 := O.at_ (v := .slice h.A2 h.n2 h.c2) 7 rfl
  have O_z := O.lt
  go_wp2_with fail
  refine (cloneE_any (L.i2.below K) h2).mono ?_
  have KS2 := K.size
  rintro e w6 ⟨A2, c2, rfl, I2, K'⟩
  clear O_7 O_z
  have lo2 : gO < w5.heap.size := O.lt
  have lr2 : gR < w5.heap.size := R.lt
  replace O := O.below K'
  replace R := R.below K'
  replace I0 := I0.below K'
  replace I1 := I1.below K'
  replace K := Below.then_ K K'
  clear K'
  have O_7 := O.at_ (v := .slice h.A2 h.n2 h.c2) 7 rfl
  have O_z := O.lt
  have O_f7 := O.fz 7
  go_upto_region 4 with (fail)
  replace R := R.far (p := ⟨gO, 7, none⟩) (Ne.symm ne_O_R) (.slice A2 h.n2 c2)
  replace O := O.set_ 7 (.slice A2 h.n2 c2)
  replace I0 := I0.set_low (p := ⟨gO, 7, none⟩) lo0 (.slice A2 h.n2 c2)
  replace I1 := I1.set_low (p := ⟨gO, 7, none⟩) lo1 (.slice A2 h.n2 c2)
  replace I2 := I2.set_low (p := ⟨gO, 7, none⟩) lo2 (.slice A2 h.n2 c2)
  replace K := K.setCell (p := ⟨gO, 7, none⟩) O_b (.slice A2 h.n2 c2)
  replace O : Bk ((w6).setCell ⟨gO, 7, none⟩ (.slice A2 h.n2 c2)) gO 42 (opv ⟨A0, h.n0, c0, A1, h.n1, c1, A2, h.n2, c2, h.A3, h.n3, h.c3⟩ s) := O
  clear O_7 O_z O_f7
  generalize (w6).setCell ⟨gO, 7, none⟩ (.slice A2 h.n2 c2) = w7 at O R I0 I1 I2 K ⊢
  have O_15 := O.at_ (v := .slice h.A3 h.n3 h.c3) 15 rfl
  have O_z := O.lt
  go_wp2_with fail
  refine (clone64_any (L.i3.below K) h3).mono ?_
  have KS3 := K.size
  rintro e w8 ⟨A3, c3, rfl, I3, K'⟩
  clear O_15 O_z
  have lo3 : gO < w7.heap.size := O.lt
  have lr3 : gR < w7.heap.size := R.lt
  replace O := O.below K'
  replace R := R.below K'
  replace I0 := I0.below K'
  replace I1 := I1.below K'
  replace I2 := I2.below K'
  replace K := Below.then_ K K'
  clear K'
  have O_15 := O.at_ (v := .slice h.A3 h.n3 h.c3) 15 rfl
  have O_z := O.lt
  have O_f15 := O.fz 15
  go_upto_region 5 with (fail)
  replace R := R.far (p := ⟨gO, 15, none⟩) (Ne.symm ne_O_R) (.slice A3 h.n3 c3)
  replace O := O.set_ 15 (.slice A3 h.n3 c3)
  replace I0 := I0.set_low (p := ⟨gO, 15, none⟩) lo0 (.slice A3 h.n3 c3)
  replace I1 := I1.set_low (p := ⟨gO, 15, none⟩) lo1 (.slice A3 h.n3 c3)
  replace I2 := I2.set_low (p := ⟨gO, 15, none⟩) lo2 (.slice A3 h.n3 c3)
  replace I3 := I3.set_low (p := ⟨gO, 15, none⟩) lo3 (.slice A3 h.n3 c3)
  replace K := K.setCell (p := ⟨gO, 15, none⟩) O_b (.slice A3 h.n3 c3)
  replace O : Bk ((w8).setCell ⟨gO, 15, none⟩ (.slice A3 h.n3 c3)) gO 42 (opv ⟨A0, h.n0, c0, A1, h.n1, c1, A2, h.n2, c2, A3, h.n3, c3⟩ s) := O
  clear O_15 O_z O_f15
  generalize (w8).setCell ⟨gO, 15, none⟩ (.slice A3 h.n3 c3) = w9 at O R I0 I1 I2 I3 K ⊢
  go_wp2_with (first | (refine wpList_load_row rfl 42 (.tmp 1) rfl gO rfl _ _ (0, 0) _ O Try.underlying42 rfl op_sz ?_) | (refine wpList_store_row rfl 42 (.tmp 2) (.tmp 25) rfl gR _ rfl rfl _ _ R op_sz rfl (opv_one _ _) ?_))
  replace O := O.row_far ne_O_R (opv ⟨A0, h.n0, c0, A1, h.n1, c1, A2, h.n2, c2, A3, h.n3, c3⟩ s)
  replace R := R.row (opv ⟨A0, h.n0, c0, A1, h.n1, c1, A2, h.n2, c2, A3, h.n3, c3⟩ s)
  replace I0 := I0.set_row lr0 (opv ⟨A0, h.n0, c0, A1, h.n1, c1, A2, h.n2, c2, A3, h.n3, c3⟩ s)
  replace I1 := I1.set_row lr1 (opv ⟨A0, h.n0, c0, A1, h.n1, c1, A2, h.n2, c2, A3, h.n3, c3⟩ s)
  replace I2 := I2.set_row lr2 (opv ⟨A0, h.n0, c0, A1, h.n1, c1, A2, h.n2, c2, A3, h.n3, c3⟩ s)
  replace I3 := I3.set_row lr3 (opv ⟨A0, h.n0, c0, A1, h.n1, c1, A2, h.n2, c2, A3, h.n3, c3⟩ s)
  replace K := below_setRow K R_b (opv ⟨A0, h.n0, c0, A1, h.n1, c1, A2, h.n2, c2, A3, h.n3, c3⟩ s)
  generalize w9.setRow gR (opv ⟨A0, h.n0, c0, A1, h.n1, c1, A2, h.n2, c2, A3, h.n3, c3⟩ s) = w10 at O R I0 I1 I2 I3 K ⊢
  refine bodyPost_ret (v := .agg (opv ⟨A0, h.n0, c0, A1, h.n1, c1, A2, h.n2, c2, A3, h.n3, c3⟩ s)) ?_ rfl ?_
  · exact results_cell_row (fn := Try.f24) Try.results24 _ _ gR _ _ (0, 0) _ rfl R Try.underlying42 rfl op_sz
  exact ⟨_, _, _, _, _, _, _, _, rfl, ⟨I0.lower KS0, I1.lower KS1, I2.lower KS2, I3.lower KS3⟩, K⟩
end Go.Proofs.Ytafdlofmgefdoaa

