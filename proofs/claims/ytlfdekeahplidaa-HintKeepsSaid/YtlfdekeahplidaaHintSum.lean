/-
  What hint.summaries answers: two closures that tell a leaf's top and the root, with the bits in them. Conditions: a block that may be; a leaf up to 65536.
-/
import Derived.Test.YtlfdekeahplidaaHintGoes
namespace Go.Proofs.Ytlfdekeahplidaa
open Go.RowKit
set_option linter.unusedVariables false
/-- The closures, over the cells gN (how many addresses) and gE (the leaf). -/
def clos (gN gE : Nat) : Array Value := #[.func (.func 59) #[] #[.pointer (some ⟨gN, 0, none⟩), .pointer (some ⟨gE, 0, none⟩)], .func (.func 61) #[] #[.pointer (some ⟨gN, 0, none⟩), .pointer (some ⟨gE, 0, none⟩)]]
def RetClos (M : Nat) (leaf : Int) (w : World) (e : Ending) (w' : World) : Prop := ∃ gN gE, e = .returned (.agg (clos gN gE)) ∧ Bk w' gN 3 #[.int .i64 M] ∧ Bk w' gE 3 #[.int .i64 leaf] ∧ w.heap.size ≤ gN ∧ w.heap.size ≤ gE ∧ Below w.heap.size w w'
theorem ar_info : (Try.prog.info? 70).map (·.size) = some 2 := by kernel_rfl
theorem ar_sz {gN gE : Nat} : (Try.prog.info? 70).map (·.size) = some (clos gN gE).size := ar_info
theorem ar_one (gN gE : Nat) : (clos gN gE).all (·.oneCell') = true := by unfold clos; simp [Value.oneCell']
section
variable {w : World} {lo lo2 a M : Nat} {p sh wo qu tr : Int} {A : Option Addr} {n c : Nat} {xs : List Int} {h : Hd} {s : Sc} {l : Ls}
theorem clo1_any {gN gE l : Nat} (hN : w.cell? ⟨gN, 0, none⟩ = some (.int .i64 (M : Nat))) (hE : w.cell? ⟨gE, 0, none⟩ = some (.int .i64 (l : Nat))) (hM : M ≤ 65536) (hl : l ≤ 65536) :
    Calls Try.prog 59 #[.pointer (some ⟨gN, 0, none⟩), .pointer (some ⟨gE, 0, none⟩)] w fun e w' => e = .returned (.tuple #[.int .i64 (lv M + l / 64 : Nat), .int .i64 (l % 64 : Nat)]) ∧ w = w' := by
  have T := fun w => Lib.hid (top_any M l hM hl w)
  go_enter Try.func59, Try.ntmps59
  go_wp2_with ((with_reducible refine ((T _).out).mono ?_); rintro e w' ⟨rfl, rfl⟩)
  go_ret2
  exact ⟨rfl, rfl⟩
theorem clo2_any {gN gE l : Nat} (hN : w.cell? ⟨gN, 0, none⟩ = some (.int .i64 (M : Nat))) (hE : w.cell? ⟨gE, 0, none⟩ = some (.int .i64 (l : Nat))) (hM : M ≤ 65536) (hl : l ≤ 65536) :
    Calls Try.prog 61 #[.pointer (some ⟨gN, 0, none⟩), .pointer (some ⟨gE, 0, none⟩)] w fun e w' => e = .returned (.tuple #[.int .i64 (lv M + tv M : Nat), .int .i64 (l / 64 : Nat)]) ∧ w = w' := by
  have T := fun w => Lib.hid (rootof_any M l hM hl w)
  go_enter Try.func61, Try.ntmps61
  go_wp2_with ((with_reducible refine ((T _).out).mono ?_); rintro e w' ⟨rfl, rfl⟩)
  go_ret2
  exact ⟨rfl, rfl⟩
set_option maxHeartbeats 1000000 in
theorem summaries_any {leaf : Int} (ha : a < 4294967296) (hM : Much a p M) :
    Calls Try.prog 37 #[.agg #[.int .u32 a, .int .i64 p, .slice A n c, .int .i64 sh, .int .i64 wo, .int .i64 qu, .int .i64 tr], .int .i64 leaf] w (RetClos M leaf w) := by
  go_enter Try.func37, Try.ntmps37
  go_upto_region 1 with (fail)
  have K := below_alloc w (.cells #[.int .u32 a, .int .i64 p, .slice A n c, .int .i64 sh, .int .i64 wo, .int .i64 qu, .int .i64 tr] 27)
  have H : Bk (World.alloc (w) (.cells #[.int .u32 a, .int .i64 p, .slice A n c, .int .i64 sh, .int .i64 wo, .int .i64 qu, .int .i64 tr] 27)) (World.heap (w)).size 27 (#[.int .u32 a, .int .i64 p, .slice A n c, .int .i64 sh, .int .i64 wo, .int .i64 qu, .int .i64 tr]) := Bk.new _ _ _
  replace H := H.alloc (.cells #[.int .i64 leaf] 3)
  replace K := Below.then_ K (below_alloc _ (.cells #[.int .i64 leaf] 3))
  have E : Bk (World.alloc ((w).alloc (.cells #[.int .u32 a, .int .i64 p, .slice A n c, .int .i64 sh, .int .i64 wo, .int .i64 qu, .int .i64 tr] 27)) (.cells #[.int .i64 leaf] 3)) (World.heap ((w).alloc (.cells #[.int .u32 a, .int .i64 p, .slice A n c, .int .i64 sh, .int .i64 wo, .int .i64 qu, .int .i64 tr] 27))).size 3 (#[.int .i64 leaf]) := Bk.new _ _ _
  replace H := H.alloc (.cells #[.nilFunc, .nilFunc] 70)
  replace E := E.alloc (.cells #[.nilFunc, .nilFunc] 70)
  replace K := Below.then_ K (below_alloc _ (.cells #[.nilFunc, .nilFunc] 70))
  have R : Bk (World.alloc (((w).alloc (.cells #[.int .u32 a, .int .i64 p, .slice A n c, .int .i64 sh, .int .i64 wo, .int .i64 qu, .int .i64 tr] 27)).alloc (.cells #[.int .i64 leaf] 3)) (.cells #[.nilFunc, .nilFunc] 70)) (World.heap (((w).alloc (.cells #[.int .u32 a, .int .i64 p, .slice A n c, .int .i64 sh, .int .i64 wo, .int .i64 qu, .int .i64 tr] 27)).alloc (.cells #[.int .i64 leaf] 3))).size 70 (#[.nilFunc, .nilFunc]) := Bk.new _ _ _
  try simp only [World.size_alloc] at H E R
  generalize (((w).alloc (.cells #[.int .u32 a, .int .i64 p, .slice A n c, .int .i64 sh, .int .i64 wo, .int .i64 qu, .int .i64 tr] 27)).alloc (.cells #[.int .i64 leaf] 3)).alloc (.cells #[.nilFunc, .nilFunc] 70) = w1 at H E R K ⊢
  obtain ⟨gR, hgR⟩ : ∃ g, g = w.heap.size + 1 + 1 := ⟨_, rfl⟩
  rw [← hgR] at R ⊢
  obtain ⟨gE, hgE⟩ : ∃ g, g = w.heap.size + 1 := ⟨_, rfl⟩
  rw [← hgE] at E ⊢
  obtain ⟨gH, hgH⟩ : ∃ g, g = w.heap.size := ⟨_, rfl⟩
  rw [← hgH] at H ⊢
  have H_b : w.heap.size ≤ gH := by omega
  have E_b : w.heap.size ≤ gE := by omega
  have R_b : w.heap.size ≤ gR := by omega
  have ne_H_E : gH ≠ gE := by omega
  have ne_H_R : gH ≠ gR := by omega
  have ne_E_R : gE ≠ gR := by omega
  clear hgH hgE hgR
  have H_0 := H.at_ (v := .int .u32 a) 0 rfl
  have H_1 := H.at_ (v := .int .i64 p) 1 rfl
  have H_z := H.lt
  go_wp2_with fail
  refine (many_yes ha hM).mono ?_
  rintro e w2 ⟨rfl, K'⟩
  clear H_0 H_1 H_z
  replace H := H.below K'
  replace E := E.below K'
  replace R := R.below K'
  replace K := Below.then_ K K'
  clear K'
  have H_lt := H.lt
  have E_lt := E.lt
  have R_lt := R.lt
  have KS := K.size
  go_upto_region 2 with (fail)
  replace H := H.alloc (.cells #[.int .i64 M] 3)
  replace E := E.alloc (.cells #[.int .i64 M] 3)
  replace R := R.alloc (.cells #[.int .i64 M] 3)
  replace K := Below.then_ K (below_alloc _ (.cells #[.int .i64 M] 3))
  have N : Bk (World.alloc (w2) (.cells #[.int .i64 M] 3)) (World.heap (w2)).size 3 (#[.int .i64 M]) := Bk.new _ _ _
  try simp only [World.size_alloc] at N
  generalize (w2).alloc (.cells #[.int .i64 M] 3) = w3 at H E R N K ⊢
  obtain ⟨gN, hgN⟩ : ∃ g, g = w2.heap.size := ⟨_, rfl⟩
  rw [← hgN] at N ⊢
  have N_b : w.heap.size ≤ gN := by have := KS; omega
  have ne_H_N : gH ≠ gN := by have := H_lt; omega
  have ne_E_N : gE ≠ gN := by have := E_lt; omega
  have ne_R_N : gR ≠ gN := by have := R_lt; omega
  clear hgN
  go_wp2_with (refine wpList_store_row rfl 70 (.tmp 4) (.tmp 11) rfl gR _ rfl (show _ = Value.agg (clos gN gE) from rfl) _ _ R ar_sz rfl (ar_one _ _) ?_)
  replace H := H.row_far ne_H_R (clos gN gE)
  replace E := E.row_far ne_E_R (clos gN gE)
  replace N := N.row_far (Ne.symm ne_R_N) (clos gN gE)
  replace R := R.row (clos gN gE)
  replace K := below_setRow K R_b (clos gN gE)
  generalize w3.setRow gR (clos gN gE) = w4 at H E R N K ⊢
  refine bodyPost_ret (v := .agg (clos gN gE)) ?_ rfl ?_
  · exact results_cell_row (fn := Try.f37) Try.results37 _ _ gR _ _ (0, 0) _ rfl R Try.underlying70 rfl ar_sz
  exact ⟨_, _, rfl, N, E, N_b, E_b, K⟩
end
end Go.Proofs.Ytlfdekeahplidaa
