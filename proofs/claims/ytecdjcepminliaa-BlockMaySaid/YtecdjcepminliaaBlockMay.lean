/-
  The walk of the law BlockMay: for every configuration it answers true.
-/
import Derived.Test.YtecdjcepminliaaBlockAwake
namespace Go.Proofs.Ytecdjcepminliaa.blockMay
open Go.RowKit
section
variable {w : World} {lo a : Nat} {p sh wo qu tr : Int} {A : Option Addr} {n c : Nat} {xs : List Int}
theorem many (hn : 200 < n) :
    Calls Try.prog 3 #[.agg #[.int .u32 a, .int .i64 p, .slice A n c, .int .i64 sh, .int .i64 wo, .int .i64 qu, .int .i64 tr]] w fun e w' => e = .returned (.bool true) ∧ Below w.heap.size w w' := by
  have hd : decide ((200 : Int) < (n : Int)) = true := by simp; omega
  have K := below_alloc w (.cells #[.int .u32 a, .int .i64 p, .slice A n c, .int .i64 sh, .int .i64 wo, .int .i64 qu, .int .i64 tr] 27)
  have H := Bk.new w #[.int .u32 a, .int .i64 p, .slice A n c, .int .i64 sh, .int .i64 wo, .int .i64 qu, .int .i64 tr] 27
  go_enter Try.func3, Try.ntmps3
  go_wp2_with fail
  generalize w.alloc (.cells #[.int .u32 a, .int .i64 p, .slice A n c, .int .i64 sh, .int .i64 wo, .int .i64 qu, .int .i64 tr] 27) = w1 at H K ⊢
  generalize w.heap.size = g at H ⊢
  refine (awake_any _).mono ?_
  rintro e w2 ⟨rfl, K'⟩
  replace H := H.below K'
  replace K := Below.then_ K K'
  clear K'
  have H_0 := H.at_ (v := .int .u32 a) 0 rfl
  have H_1 := H.at_ (v := .int .i64 p) 1 rfl
  have H_2 := H.at_ (v := .slice A n c) 2 rfl
  have H_3 := H.at_ (v := .int .i64 sh) 3 rfl
  have H_4 := H.at_ (v := .int .i64 wo) 4 rfl
  have H_5 := H.at_ (v := .int .i64 qu) 5 rfl
  have H_6 := H.at_ (v := .int .i64 tr) 6 rfl
  have H_z := H.lt
  go_wp2_with fail
  refine (awake_any _).mono ?_
  rintro e w3 ⟨rfl, K'⟩
  clear H_0 H_1 H_2 H_3 H_4 H_5 H_6 H_z
  replace H := H.below K'
  replace K := Below.then_ K K'
  clear K'
  go_wp2
  go_ret
  exact ⟨rfl, K⟩
set_option maxRecDepth 100000 in
theorem few (ha : a < 4294967296) (h : IS .i64 lo w A n c xs) (hn : n ≤ 200) :
    Calls Try.prog 3 #[.agg #[.int .u32 a, .int .i64 p, .slice A n c, .int .i64 sh, .int .i64 wo, .int .i64 qu, .int .i64 tr]] w fun e w' => e = .returned (.bool true) ∧ Below w.heap.size w w' := by
  have hd : decide ((200 : Int) < (n : Int)) = false := by simp; omega
  have eb : (confB a p n xs sh wo qu tr == confB a p n xs sh wo qu tr) = true := by simp
  have K := below_alloc w (.cells #[.int .u32 a, .int .i64 p, .slice A n c, .int .i64 sh, .int .i64 wo, .int .i64 qu, .int .i64 tr] 27)
  have H := Bk.new w #[.int .u32 a, .int .i64 p, .slice A n c, .int .i64 sh, .int .i64 wo, .int .i64 qu, .int .i64 tr] 27
  replace h := h.below K
  go_enter Try.func3, Try.ntmps3
  go_wp2_with fail
  generalize w.alloc (.cells #[.int .u32 a, .int .i64 p, .slice A n c, .int .i64 sh, .int .i64 wo, .int .i64 qu, .int .i64 tr] 27) = w1 at H K h ⊢
  generalize w.heap.size = g at H ⊢
  refine (awake_any _).mono ?_
  rintro e w2 ⟨rfl, K'⟩
  replace H := H.below K'
  replace h := h.below K'
  replace K := Below.then_ K K'
  clear K'
  have H_0 := H.at_ (v := .int .u32 a) 0 rfl
  have H_1 := H.at_ (v := .int .i64 p) 1 rfl
  have H_2 := H.at_ (v := .slice A n c) 2 rfl
  have H_3 := H.at_ (v := .int .i64 sh) 3 rfl
  have H_4 := H.at_ (v := .int .i64 wo) 4 rfl
  have H_5 := H.at_ (v := .int .i64 qu) 5 rfl
  have H_6 := H.at_ (v := .int .i64 tr) 6 rfl
  have H_z := H.lt
  go_wp2_with fail
  clear H_0 H_1 H_2 H_3 H_4 H_5 H_6 H_z
  refine wp_region_held_drew (S := fun w' => Below w2.heap.size w2 w') (by kernel_rfl) (Below.refl _ _).drew (fun hHeld => ?_)
  refine wpAnyH_take (i := 0) (oi := ⟨some 12, _, _, _, _, _⟩) (v := ?_) rfl (by kernel_rfl) (by kernel_rfl) (by kernel_rfl) (fun _ _ _ h => h) (Or.inl ⟨by rfl, ?_⟩) hHeld ?_
  rotate_left
  · intro ww hSw
    try dsimp only at hSw
    have H_0 := (H.below hSw).at_ (v := .int .u32 a) 0 rfl
    have H_1 := (H.below hSw).at_ (v := .int .i64 p) 1 rfl
    have H_2 := (H.below hSw).at_ (v := .slice A n c) 2 rfl
    have H_3 := (H.below hSw).at_ (v := .int .i64 sh) 3 rfl
    have H_4 := (H.below hSw).at_ (v := .int .i64 wo) 4 rfl
    have H_5 := (H.below hSw).at_ (v := .int .i64 qu) 5 rfl
    have H_6 := (H.below hSw).at_ (v := .int .i64 tr) 6 rfl
    go_simp
    try with_reducible rfl
    try omega
  try simp only [Act.put, List.setIfInBounds_toArray, List.set_cons_zero, List.set_cons_succ]
  refine wpAnyH_take (i := 2) (oi := ⟨some 14, _, _, _, _, _⟩) (v := ?_) rfl (by kernel_rfl) (by kernel_rfl) (by kernel_rfl) (fun _ _ _ h => h) (Or.inl ⟨by rfl, ?_⟩) hHeld ?_
  rotate_left
  · intro ww hSw
    try dsimp only at hSw
    have H_0 := (H.below hSw).at_ (v := .int .u32 a) 0 rfl
    have H_1 := (H.below hSw).at_ (v := .int .i64 p) 1 rfl
    have H_2 := (H.below hSw).at_ (v := .slice A n c) 2 rfl
    have H_3 := (H.below hSw).at_ (v := .int .i64 sh) 3 rfl
    have H_4 := (H.below hSw).at_ (v := .int .i64 wo) 4 rfl
    have H_5 := (H.below hSw).at_ (v := .int .i64 qu) 5 rfl
    have H_6 := (H.below hSw).at_ (v := .int .i64 tr) 6 rfl
    go_simp
    try with_reducible rfl
    try omega
  try simp only [Act.put, List.setIfInBounds_toArray, List.set_cons_zero, List.set_cons_succ]
  refine wpAnyH_ready (rs := [1]) (by kernel_rfl) (by simp) ?_
  refine AllReadyH.cons (o := ⟨some 13, _, _, _, _, _⟩) rfl (fun K0 hK => ?_) AllReadyH.nil
  go_simp
  refine (may_any ha (h.below hHeld) (by omega)).mono ?_
  rintro e ww ⟨rfl, K'⟩
  refine hK.out _ _ (Below.then_ hHeld K') (fun hHeld' => ?_)
  clear hHeld K' hK K0
  have hHeld := hHeld'
  clear hHeld'
  try simp only [Act.put, List.setIfInBounds_toArray, List.set_cons_zero, List.set_cons_succ]
  refine wpAnyH_ready (rs := [3]) (by kernel_rfl) (by simp) ?_
  refine AllReadyH.cons (o := ⟨some 15, _, _, _, _, _⟩) rfl (fun K0 hK => ?_) AllReadyH.nil
  go_simp
  refine (rmay_any ha (h.below hHeld)).mono ?_
  rintro e ww ⟨rfl, K'⟩
  refine hK.out _ _ (Below.then_ hHeld K') (fun hHeld' => ?_)
  clear hHeld K' hK K0
  have hHeld := hHeld'
  clear hHeld'
  try simp only [Act.put, List.setIfInBounds_toArray, List.set_cons_zero, List.set_cons_succ]
  refine wpAnyH_take (i := 4) (oi := ⟨some 16, _, _, _, _, _⟩) (v := .bool true) rfl (by kernel_rfl) (by kernel_rfl) (by kernel_rfl) (fun _ _ _ h => h) (Or.inl ⟨by rfl, ?_⟩) hHeld ?_
  · intro ww hSw
    try dsimp only at hSw
    go_simp
    try with_reducible rfl
    try omega
  try simp only [Act.put, List.setIfInBounds_toArray, List.set_cons_zero, List.set_cons_succ]
  refine wpAnyH_take (i := 5) (oi := ⟨some 2, _, _, _, _, _⟩) (v := ?_) rfl (by kernel_rfl) (by kernel_rfl) (by kernel_rfl) (fun _ _ _ h => h) (Or.inl ⟨by rfl, ?_⟩) hHeld ?_
  rotate_left
  · intro ww hSw
    try dsimp only at hSw
    go_simp
    try with_reducible rfl
    try omega
  try simp only [Act.put, List.setIfInBounds_toArray, List.set_cons_zero, List.set_cons_succ]
  refine wpAnyH_done (by kernel_rfl) ?_ _
  replace K := Below.then_ K hHeld
  go_wp2
  go_ret
  exact ⟨rfl, K⟩
end
theorem walk (a p : Int) (A : Option Addr) (n c : Nat) (z : List Int) (sh wo qu tr : Int) (w : World) (wa : (Lit.int .u32 a).wf = true) (wr : IsRow .i64 w A n c z) :
    Calls Try.prog 3 #[.agg #[.int .u32 a, .int .i64 p, .slice A n c, .int .i64 sh, .int .i64 wo, .int .i64 qu, .int .i64 tr]] w fun e w' => e = .returned (.bool true) ∧ Below w.heap.size w w' := by
  obtain ⟨a, rfl, ha⟩ := wf_u32 wa
  obtain ⟨xs, h, _⟩ := IS.of_row wr
  by_cases hn : n ≤ 200
  · exact few ha h hn
  · exact many (by omega)
end Go.Proofs.Ytecdjcepminliaa.blockMay
