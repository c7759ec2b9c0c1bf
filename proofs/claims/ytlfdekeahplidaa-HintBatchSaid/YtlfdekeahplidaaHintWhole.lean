/-
  What the document's Whole tells: where it answers true, the operation's leaf there is, Item is from 0 to 1000, At 0 or 1, its lists are short, and all its addresses are the block's.
-/
import Derived.Test.YtlfdekeahplidaaHintFits
namespace Go.Proofs.Ytlfdekeahplidaa
open Go.RowKit
set_option linter.unusedVariables false
/-- What Whole tells. -/
def WhP (a M : Nat) (h : Hd) (s : Sc) (xs : List Int) : Prop := (0 ≤ s.leaf ∧ s.leaf < (lv M : Int)) ∧ (0 ≤ s.item ∧ s.item ≤ 1000) ∧ (0 ≤ s.at_ ∧ s.at_ ≤ 1) ∧ (h.n0 ≤ 100 ∧ h.n1 ≤ 300 ∧ h.n2 ≤ 300 ∧ h.n3 ≤ 300) ∧ InB a M h.n0 xs
section
variable {w : World} {lo lo2 a M m d : Nat} {p sh wo qu tr : Int} {A B : Option Addr} {n c : Nat} {zs : List Int} {xs : List Int} {h : Hd} {s : Sc}
set_option maxRecDepth 100000 in
set_option maxHeartbeats 2000000 in
theorem whole_all (hM : Much a p M) (hI : IS .u32 lo w h.A0 h.n0 h.c0 xs) (hxs : ∀ j, j < h.n0 → ∃ x : Nat, gi xs j = (x : Int) ∧ x < 4294967296) (q0 : ¬ s.leaf < 0) (q1 : ¬ (lv M : Int) ≤ s.leaf) (q2 : ¬ s.item < 0) (q3 : ¬ 1000 < s.item) (q4 : ¬ s.at_ < 0) (q5 : ¬ 1 < s.at_) (q6 : ¬ (100 : Int) < (h.n0 : Int)) (q7 : ¬ (300 : Int) < (h.n3 : Int)) (q8 : ¬ (300 : Int) < (h.n1 : Int)) (q9 : ¬ (300 : Int) < (h.n2 : Int)) :
    Calls Try.prog 11 #[.agg #[.int .u32 a, .int .i64 p, .slice A n c, .int .i64 sh, .int .i64 wo, .int .i64 qu, .int .i64 tr], .agg (opv h s)] w (RetW (WhP a M h s xs) w) := by
  have P : InB a M h.n0 xs → WhP a M h s xs := fun hin => ⟨⟨by omega, by omega⟩, ⟨by omega, by omega⟩, ⟨by omega, by omega⟩, ⟨by omega, by omega, by omega, by omega⟩, hin⟩
  have HP := Lib.hid P
  clear P
  have T := fun w => Lib.hid (rleaves_any M hM.most w)
  rcases s with ⟨kind, addr, err, aad, used, phase, shard, sought, leaf, bit, word, full, at_, tries, item, stamp⟩
  rcases h with ⟨A0, n0, c0, A1, n1, c1, A2, n2, c2, A3, n3, c3⟩
  dsimp only at *
  have e0 : decide (leaf < 0) = false := by simp; omega
  have e1 : decide ((lv M : Int) ≤ leaf) = false := by simp; omega
  have e2 : decide (item < 0) = false := by simp; omega
  have e3 : decide (1000 < item) = false := by simp; omega
  have e4 : decide (at_ < 0) = false := by simp; omega
  have e5 : decide (1 < at_) = false := by simp; omega
  have e6 : decide ((100 : Int) < (n0 : Int)) = false := by simp; omega
  have e7 : decide ((300 : Int) < (n3 : Int)) = false := by simp; omega
  have e8 : decide ((300 : Int) < (n1 : Int)) = false := by simp; omega
  have e9 : decide ((300 : Int) < (n2 : Int)) = false := by simp; omega
  go_enter Try.func11, Try.ntmps11
  go_upto_region 1 with (fail)
  have K := below_alloc w (.cells #[.int .u32 a, .int .i64 p, .slice A n c, .int .i64 sh, .int .i64 wo, .int .i64 qu, .int .i64 tr] 27)
  have H : Bk (World.alloc (w) (.cells #[.int .u32 a, .int .i64 p, .slice A n c, .int .i64 sh, .int .i64 wo, .int .i64 qu, .int .i64 tr] 27)) (World.heap (w)).size 27 (#[.int .u32 a, .int .i64 p, .slice A n c, .int .i64 sh, .int .i64 wo, .int .i64 qu, .int .i64 tr]) := Bk.new _ _ _
  replace H := H.alloc (.cells (opv ⟨A0, n0, c0, A1, n1, c1, A2, n2, c2, A3, n3, c3⟩ ⟨kind, addr, err, aad, used, phase, shard, sought, leaf, bit, word, full, at_, tries, item, stamp⟩) 38)
  replace K := Below.then_ K (below_alloc _ (.cells (opv ⟨A0, n0, c0, A1, n1, c1, A2, n2, c2, A3, n3, c3⟩ ⟨kind, addr, err, aad, used, phase, shard, sought, leaf, bit, word, full, at_, tries, item, stamp⟩) 38))
  have O : Bk (World.alloc ((w).alloc (.cells #[.int .u32 a, .int .i64 p, .slice A n c, .int .i64 sh, .int .i64 wo, .int .i64 qu, .int .i64 tr] 27)) (.cells (opv ⟨A0, n0, c0, A1, n1, c1, A2, n2, c2, A3, n3, c3⟩ ⟨kind, addr, err, aad, used, phase, shard, sought, leaf, bit, word, full, at_, tries, item, stamp⟩) 38)) (World.heap ((w).alloc (.cells #[.int .u32 a, .int .i64 p, .slice A n c, .int .i64 sh, .int .i64 wo, .int .i64 qu, .int .i64 tr] 27))).size 38 (opv ⟨A0, n0, c0, A1, n1, c1, A2, n2, c2, A3, n3, c3⟩ ⟨kind, addr, err, aad, used, phase, shard, sought, leaf, bit, word, full, at_, tries, item, stamp⟩) := Bk.new _ _ _
  try simp only [World.size_alloc] at H O
  generalize ((w).alloc (.cells #[.int .u32 a, .int .i64 p, .slice A n c, .int .i64 sh, .int .i64 wo, .int .i64 qu, .int .i64 tr] 27)).alloc (.cells (opv ⟨A0, n0, c0, A1, n1, c1, A2, n2, c2, A3, n3, c3⟩ ⟨kind, addr, err, aad, used, phase, shard, sought, leaf, bit, word, full, at_, tries, item, stamp⟩) 38) = w1 at H O K ⊢
  obtain ⟨gO, hgO⟩ : ∃ g, g = w.heap.size + 1 := ⟨_, rfl⟩
  rw [← hgO] at O ⊢
  obtain ⟨gH, hgH⟩ : ∃ g, g = w.heap.size := ⟨_, rfl⟩
  rw [← hgH] at H ⊢
  have H_b : w.heap.size ≤ gH := by omega
  have O_b : w.heap.size ≤ gO := by omega
  have ne_H_O : gH ≠ gO := by omega
  clear hgH hgO
  refine wp_region_held_drew (S := fun w' => Below w.heap.size w w' ∧ Bk w' gH 27 (#[.int .u32 a, .int .i64 p, .slice A n c, .int .i64 sh, .int .i64 wo, .int .i64 qu, .int .i64 tr]) ∧ Bk w' gO 38 (opv ⟨A0, n0, c0, A1, n1, c1, A2, n2, c2, A3, n3, c3⟩ ⟨kind, addr, err, aad, used, phase, shard, sought, leaf, bit, word, full, at_, tries, item, stamp⟩) ∧ True) (by kernel_rfl) ⟨K.drew, H.below ((Below.refl _ _).drew), O.below ((Below.refl _ _).drew), trivial⟩ (fun hHeld => ?_)
  generalize w1.drew = v2 at hHeld ⊢
  refine wpAnyH_take (i := 0) (oi := ⟨some 8, _, _, _, _, _⟩) (v := ?_) rfl (by kernel_rfl) (by kernel_rfl) (by kernel_rfl) (fun _ _ _ h => h) (Or.inl ⟨by rfl, ?_⟩) hHeld ?_
  rotate_left
  · intro ww hSw
    try dsimp only at hSw
    go_simp
    try with_reducible rfl
    try omega
  try simp only [Act.put, List.setIfInBounds_toArray, List.set_cons_zero, List.set_cons_succ]
  refine wpAnyH_take (i := 1) (oi := ⟨some 9, _, _, _, _, _⟩) (v := ?_) rfl (by kernel_rfl) (by kernel_rfl) (by kernel_rfl) (fun _ _ _ h => h) (Or.inl ⟨by rfl, ?_⟩) hHeld ?_
  rotate_left
  · intro ww hSw
    try dsimp only at hSw
    have O_11 := hSw.2.2.1.at_ (v := .int .i64 leaf) 11 rfl
    have O_18 := hSw.2.2.1.at_ (v := .int .i64 item) 18 rfl
    have O_16 := hSw.2.2.1.at_ (v := .int .i64 at_) 16 rfl
    have O_2 := hSw.2.2.1.at_ (v := .slice A0 n0 c0) 2 rfl
    have O_6 := hSw.2.2.1.at_ (v := .slice A1 n1 c1) 6 rfl
    have O_7 := hSw.2.2.1.at_ (v := .slice A2 n2 c2) 7 rfl
    have O_15 := hSw.2.2.1.at_ (v := .slice A3 n3 c3) 15 rfl
    have H_0 := hSw.2.1.at_ (v := .int .u32 a) 0 rfl
    have H_1 := hSw.2.1.at_ (v := .int .i64 p) 1 rfl
    go_simp
    try with_reducible rfl
    try omega
  try simp only [Act.put, List.setIfInBounds_toArray, List.set_cons_zero, List.set_cons_succ]
  refine wpAnyH_take (i := 2) (oi := ⟨some 10, _, _, _, _, _⟩) (v := .bool false) rfl (by kernel_rfl) (by kernel_rfl) (by kernel_rfl) (fun _ _ _ h => h) (Or.inl ⟨by rfl, ?_⟩) hHeld ?_
  · intro ww hSw
    try dsimp only at hSw
    go_simp
    try with_reducible rfl
    try omega
  try simp only [Act.put, List.setIfInBounds_toArray, List.set_cons_zero, List.set_cons_succ]
  refine wpAnyH_take (i := 3) (oi := ⟨some 11, _, _, _, _, _⟩) (v := .bool false) rfl (by kernel_rfl) (by kernel_rfl) (by kernel_rfl) (fun _ _ _ h => h) (Or.inl ⟨by rfl, ?_⟩) hHeld ?_
  · intro ww hSw
    try dsimp only at hSw
    go_simp
    try with_reducible rfl
    try omega
  try simp only [Act.put, List.setIfInBounds_toArray, List.set_cons_zero, List.set_cons_succ]
  refine wpAnyH_take (i := 4) (oi := ⟨some 12, _, _, _, _, _⟩) (v := ?_) rfl (by kernel_rfl) (by kernel_rfl) (by kernel_rfl) (fun _ _ _ h => h) (Or.inl ⟨by rfl, ?_⟩) hHeld ?_
  rotate_left
  · intro ww hSw
    try dsimp only at hSw
    go_simp
    try with_reducible rfl
    try omega
  try simp only [Act.put, List.setIfInBounds_toArray, List.set_cons_zero, List.set_cons_succ]
  refine wpAnyH_take (i := 5) (oi := ⟨some 13, _, _, _, _, _⟩) (v := ?_) rfl (by kernel_rfl) (by kernel_rfl) (by kernel_rfl) (fun _ _ _ h => h) (Or.inl ⟨by rfl, ?_⟩) hHeld ?_
  rotate_left
  · intro ww hSw
    try dsimp only at hSw
    have O_11 := hSw.2.2.1.at_ (v := .int .i64 leaf) 11 rfl
    have O_18 := hSw.2.2.1.at_ (v := .int .i64 item) 18 rfl
    have O_16 := hSw.2.2.1.at_ (v := .int .i64 at_) 16 rfl
    have O_2 := hSw.2.2.1.at_ (v := .slice A0 n0 c0) 2 rfl
    have O_6 := hSw.2.2.1.at_ (v := .slice A1 n1 c1) 6 rfl
    have O_7 := hSw.2.2.1.at_ (v := .slice A2 n2 c2) 7 rfl
    have O_15 := hSw.2.2.1.at_ (v := .slice A3 n3 c3) 15 rfl
    have H_0 := hSw.2.1.at_ (v := .int .u32 a) 0 rfl
    have H_1 := hSw.2.1.at_ (v := .int .i64 p) 1 rfl
    go_simp
    try with_reducible rfl
    try omega
  try simp only [Act.put, List.setIfInBounds_toArray, List.set_cons_zero, List.set_cons_succ]
  refine wpAnyH_take (i := 6) (oi := ⟨some 14, _, _, _, _, _⟩) (v := ?_) rfl (by kernel_rfl) (by kernel_rfl) (by kernel_rfl) (fun _ _ _ h => h) (Or.inl ⟨by rfl, ?_⟩) hHeld ?_
  rotate_left
  · intro ww hSw
    try dsimp only at hSw
    go_simp
    try with_reducible rfl
    try omega
  try simp only [Act.put, List.setIfInBounds_toArray, List.set_cons_zero, List.set_cons_succ]
  refine wpAnyH_take (i := 7) (oi := ⟨some 15, _, _, _, _, _⟩) (v := ?_) rfl (by kernel_rfl) (by kernel_rfl) (by kernel_rfl) (fun _ _ _ h => h) (Or.inl ⟨by rfl, ?_⟩) hHeld ?_
  rotate_left
  · intro ww hSw
    try dsimp only at hSw
    have O_11 := hSw.2.2.1.at_ (v := .int .i64 leaf) 11 rfl
    have O_18 := hSw.2.2.1.at_ (v := .int .i64 item) 18 rfl
    have O_16 := hSw.2.2.1.at_ (v := .int .i64 at_) 16 rfl
    have O_2 := hSw.2.2.1.at_ (v := .slice A0 n0 c0) 2 rfl
    have O_6 := hSw.2.2.1.at_ (v := .slice A1 n1 c1) 6 rfl
    have O_7 := hSw.2.2.1.at_ (v := .slice A2 n2 c2) 7 rfl
    have O_15 := hSw.2.2.1.at_ (v := .slice A3 n3 c3) 15 rfl
    have H_0 := hSw.2.1.at_ (v := .int .u32 a) 0 rfl
    have H_1 := hSw.2.1.at_ (v := .int .i64 p) 1 rfl
    go_simp
    try with_reducible rfl
    try omega
  try simp only [Act.put, List.setIfInBounds_toArray, List.set_cons_zero, List.set_cons_succ]
  refine wpAnyH_ready (rs := [8]) (by kernel_rfl) (by simp) ?_
  refine AllReadyH.cons (o := ⟨some 16, _, _, _, _, _⟩) rfl (fun K0 hK => ?_) AllReadyH.nil
  go_simp
  refine (rmany_yes hM).mono ?_
  rintro e v3 ⟨rfl, K'⟩
  refine hK.out _ _ ⟨Below.then_ hHeld.1 K', hHeld.2.1.below K', hHeld.2.2.1.below K', trivial⟩ (fun hHeld' => ?_)
  clear hHeld K' hK K0
  have hHeld := hHeld'
  clear hHeld'
  try simp only [Act.put, List.setIfInBounds_toArray, List.set_cons_zero, List.set_cons_succ]
  refine wpAnyH_ready (rs := [9]) (by kernel_rfl) (by simp) ?_
  refine AllReadyH.cons (o := ⟨some 17, _, _, _, _, _⟩) rfl (fun K0 hK => ?_) AllReadyH.nil
  go_simp
  refine ((T _).out).mono ?_
  rintro e _ ⟨rfl, rfl⟩
  refine hK.out _ _ hHeld (fun hHeld' => ?_)
  clear hHeld hK K0
  have hHeld := hHeld'
  clear hHeld'
  try simp only [Act.put, List.setIfInBounds_toArray, List.set_cons_zero, List.set_cons_succ]
  refine wpAnyH_take (i := 10) (oi := ⟨some 18, _, _, _, _, _⟩) (v := .bool false) rfl (by kernel_rfl) (by kernel_rfl) (by kernel_rfl) (fun _ _ _ h => h) (Or.inl ⟨by rfl, ?_⟩) hHeld ?_
  · intro ww hSw
    try dsimp only at hSw
    go_simp
    try with_reducible rfl
    try omega
  try simp only [Act.put, List.setIfInBounds_toArray, List.set_cons_zero, List.set_cons_succ]
  refine wpAnyH_take (i := 11) (oi := ⟨some 19, _, _, _, _, _⟩) (v := .bool false) rfl (by kernel_rfl) (by kernel_rfl) (by kernel_rfl) (fun _ _ _ h => h) (Or.inl ⟨by rfl, ?_⟩) hHeld ?_
  · intro ww hSw
    try dsimp only at hSw
    go_simp
    try with_reducible rfl
    try omega
  try simp only [Act.put, List.setIfInBounds_toArray, List.set_cons_zero, List.set_cons_succ]
  refine wpAnyH_take (i := 12) (oi := ⟨some 20, _, _, _, _, _⟩) (v := .bool false) rfl (by kernel_rfl) (by kernel_rfl) (by kernel_rfl) (fun _ _ _ h => h) (Or.inl ⟨by rfl, ?_⟩) hHeld ?_
  · intro ww hSw
    try dsimp only at hSw
    go_simp
    try with_reducible rfl
    try omega
  try simp only [Act.put, List.setIfInBounds_toArray, List.set_cons_zero, List.set_cons_succ]
  refine wpAnyH_take (i := 13) (oi := ⟨some 21, _, _, _, _, _⟩) (v := ?_) rfl (by kernel_rfl) (by kernel_rfl) (by kernel_rfl) (fun _ _ _ h => h) (Or.inl ⟨by rfl, ?_⟩) hHeld ?_
  rotate_left
  · intro ww hSw
    try dsimp only at hSw
    go_simp
    try with_reducible rfl
    try omega
  try simp only [Act.put, List.setIfInBounds_toArray, List.set_cons_zero, List.set_cons_succ]
  refine wpAnyH_take (i := 14) (oi := ⟨some 22, _, _, _, _, _⟩) (v := ?_) rfl (by kernel_rfl) (by kernel_rfl) (by kernel_rfl) (fun _ _ _ h => h) (Or.inl ⟨by rfl, ?_⟩) hHeld ?_
  rotate_left
  · intro ww hSw
    try dsimp only at hSw
    have O_11 := hSw.2.2.1.at_ (v := .int .i64 leaf) 11 rfl
    have O_18 := hSw.2.2.1.at_ (v := .int .i64 item) 18 rfl
    have O_16 := hSw.2.2.1.at_ (v := .int .i64 at_) 16 rfl
    have O_2 := hSw.2.2.1.at_ (v := .slice A0 n0 c0) 2 rfl
    have O_6 := hSw.2.2.1.at_ (v := .slice A1 n1 c1) 6 rfl
    have O_7 := hSw.2.2.1.at_ (v := .slice A2 n2 c2) 7 rfl
    have O_15 := hSw.2.2.1.at_ (v := .slice A3 n3 c3) 15 rfl
    have H_0 := hSw.2.1.at_ (v := .int .u32 a) 0 rfl
    have H_1 := hSw.2.1.at_ (v := .int .i64 p) 1 rfl
    go_simp
    try with_reducible rfl
    try omega
  try simp only [Act.put, List.setIfInBounds_toArray, List.set_cons_zero, List.set_cons_succ]
  refine wpAnyH_take (i := 15) (oi := ⟨some 23, _, _, _, _, _⟩) (v := .bool false) rfl (by kernel_rfl) (by kernel_rfl) (by kernel_rfl) (fun _ _ _ h => h) (Or.inl ⟨by rfl, ?_⟩) hHeld ?_
  · intro ww hSw
    try dsimp only at hSw
    go_simp
    try with_reducible rfl
    try omega
  try simp only [Act.put, List.setIfInBounds_toArray, List.set_cons_zero, List.set_cons_succ]
  refine wpAnyH_take (i := 16) (oi := ⟨some 24, _, _, _, _, _⟩) (v := .bool false) rfl (by kernel_rfl) (by kernel_rfl) (by kernel_rfl) (fun _ _ _ h => h) (Or.inl ⟨by rfl, ?_⟩) hHeld ?_
  · intro ww hSw
    try dsimp only at hSw
    go_simp
    try with_reducible rfl
    try omega
  try simp only [Act.put, List.setIfInBounds_toArray, List.set_cons_zero, List.set_cons_succ]
  refine wpAnyH_take (i := 17) (oi := ⟨some 25, _, _, _, _, _⟩) (v := .bool false) rfl (by kernel_rfl) (by kernel_rfl) (by kernel_rfl) (fun _ _ _ h => h) (Or.inl ⟨by rfl, ?_⟩) hHeld ?_
  · intro ww hSw
    try dsimp only at hSw
    go_simp
    try with_reducible rfl
    try omega
  try simp only [Act.put, List.setIfInBounds_toArray, List.set_cons_zero, List.set_cons_succ]
  refine wpAnyH_take (i := 18) (oi := ⟨some 26, _, _, _, _, _⟩) (v := ?_) rfl (by kernel_rfl) (by kernel_rfl) (by kernel_rfl) (fun _ _ _ h => h) (Or.inl ⟨by rfl, ?_⟩) hHeld ?_
  rotate_left
  · intro ww hSw
    try dsimp only at hSw
    go_simp
    try with_reducible rfl
    try omega
  try simp only [Act.put, List.setIfInBounds_toArray, List.set_cons_zero, List.set_cons_succ]
  refine wpAnyH_take (i := 19) (oi := ⟨some 27, _, _, _, _, _⟩) (v := ?_) rfl (by kernel_rfl) (by kernel_rfl) (by kernel_rfl) (fun _ _ _ h => h) (Or.inl ⟨by rfl, ?_⟩) hHeld ?_
  rotate_left
  · intro ww hSw
    try dsimp only at hSw
    have O_11 := hSw.2.2.1.at_ (v := .int .i64 leaf) 11 rfl
    have O_18 := hSw.2.2.1.at_ (v := .int .i64 item) 18 rfl
    have O_16 := hSw.2.2.1.at_ (v := .int .i64 at_) 16 rfl
    have O_2 := hSw.2.2.1.at_ (v := .slice A0 n0 c0) 2 rfl
    have O_6 := hSw.2.2.1.at_ (v := .slice A1 n1 c1) 6 rfl
    have O_7 := hSw.2.2.1.at_ (v := .slice A2 n2 c2) 7 rfl
    have O_15 := hSw.2.2.1.at_ (v := .slice A3 n3 c3) 15 rfl
    have H_0 := hSw.2.1.at_ (v := .int .u32 a) 0 rfl
    have H_1 := hSw.2.1.at_ (v := .int .i64 p) 1 rfl
    go_simp
    try with_reducible rfl
    try omega
  try simp only [Act.put, List.setIfInBounds_toArray, List.set_cons_zero, List.set_cons_succ]
  refine wpAnyH_take (i := 20) (oi := ⟨some 28, _, _, _, _, _⟩) (v := .bool false) rfl (by kernel_rfl) (by kernel_rfl) (by kernel_rfl) (fun _ _ _ h => h) (Or.inl ⟨by rfl, ?_⟩) hHeld ?_
  · intro ww hSw
    try dsimp only at hSw
    go_simp
    try with_reducible rfl
    try omega
  try simp only [Act.put, List.setIfInBounds_toArray, List.set_cons_zero, List.set_cons_succ]
  refine wpAnyH_take (i := 21) (oi := ⟨some 29, _, _, _, _, _⟩) (v := .bool false) rfl (by kernel_rfl) (by kernel_rfl) (by kernel_rfl) (fun _ _ _ h => h) (Or.inl ⟨by rfl, ?_⟩) hHeld ?_
  · intro ww hSw
    try dsimp only at hSw
    go_simp
    try with_reducible rfl
    try omega
  try simp only [Act.put, List.setIfInBounds_toArray, List.set_cons_zero, List.set_cons_succ]
  refine wpAnyH_take (i := 22) (oi := ⟨some 30, _, _, _, _, _⟩) (v := .bool false) rfl (by kernel_rfl) (by kernel_rfl) (by kernel_rfl) (fun _ _ _ h => h) (Or.inl ⟨by rfl, ?_⟩) hHeld ?_
  · intro ww hSw
    try dsimp only at hSw
    go_simp
    try with_reducible rfl
    try omega
  try simp only [Act.put, List.setIfInBounds_toArray, List.set_cons_zero, List.set_cons_succ]
  refine wpAnyH_take (i := 23) (oi := ⟨some 31, _, _, _, _, _⟩) (v := ?_) rfl (by kernel_rfl) (by kernel_rfl) (by kernel_rfl) (fun _ _ _ h => h) (Or.inl ⟨by rfl, ?_⟩) hHeld ?_
  rotate_left
  · intro ww hSw
    try dsimp only at hSw
    go_simp
    try with_reducible rfl
    try omega
  try simp only [Act.put, List.setIfInBounds_toArray, List.set_cons_zero, List.set_cons_succ]
  refine wpAnyH_take (i := 24) (oi := ⟨some 32, _, _, _, _, _⟩) (v := ?_) rfl (by kernel_rfl) (by kernel_rfl) (by kernel_rfl) (fun _ _ _ h => h) (Or.inl ⟨by rfl, ?_⟩) hHeld ?_
  rotate_left
  · intro ww hSw
    try dsimp only at hSw
    have O_11 := hSw.2.2.1.at_ (v := .int .i64 leaf) 11 rfl
    have O_18 := hSw.2.2.1.at_ (v := .int .i64 item) 18 rfl
    have O_16 := hSw.2.2.1.at_ (v := .int .i64 at_) 16 rfl
    have O_2 := hSw.2.2.1.at_ (v := .slice A0 n0 c0) 2 rfl
    have O_6 := hSw.2.2.1.at_ (v := .slice A1 n1 c1) 6 rfl
    have O_7 := hSw.2.2.1.at_ (v := .slice A2 n2 c2) 7 rfl
    have O_15 := hSw.2.2.1.at_ (v := .slice A3 n3 c3) 15 rfl
    have H_0 := hSw.2.1.at_ (v := .int .u32 a) 0 rfl
    have H_1 := hSw.2.1.at_ (v := .int .i64 p) 1 rfl
    go_simp
    try with_reducible rfl
    try omega
  try simp only [Act.put, List.setIfInBounds_toArray, List.set_cons_zero, List.set_cons_succ]
  refine wpAnyH_take (i := 25) (oi := ⟨some 33, _, _, _, _, _⟩) (v := .bool false) rfl (by kernel_rfl) (by kernel_rfl) (by kernel_rfl) (fun _ _ _ h => h) (Or.inl ⟨by rfl, ?_⟩) hHeld ?_
  · intro ww hSw
    try dsimp only at hSw
    go_simp
    try with_reducible rfl
    try omega
  try simp only [Act.put, List.setIfInBounds_toArray, List.set_cons_zero, List.set_cons_succ]
  refine wpAnyH_take (i := 26) (oi := ⟨some 34, _, _, _, _, _⟩) (v := .bool false) rfl (by kernel_rfl) (by kernel_rfl) (by kernel_rfl) (fun _ _ _ h => h) (Or.inl ⟨by rfl, ?_⟩) hHeld ?_
  · intro ww hSw
    try dsimp only at hSw
    go_simp
    try with_reducible rfl
    try omega
  try simp only [Act.put, List.setIfInBounds_toArray, List.set_cons_zero, List.set_cons_succ]
  refine wpAnyH_take (i := 27) (oi := ⟨some 35, _, _, _, _, _⟩) (v := .bool false) rfl (by kernel_rfl) (by kernel_rfl) (by kernel_rfl) (fun _ _ _ h => h) (Or.inl ⟨by rfl, ?_⟩) hHeld ?_
  · intro ww hSw
    try dsimp only at hSw
    go_simp
    try with_reducible rfl
    try omega
  try simp only [Act.put, List.setIfInBounds_toArray, List.set_cons_zero, List.set_cons_succ]
  refine wpAnyH_take (i := 28) (oi := ⟨some 36, _, _, _, _, _⟩) (v := ?_) rfl (by kernel_rfl) (by kernel_rfl) (by kernel_rfl) (fun _ _ _ h => h) (Or.inl ⟨by rfl, ?_⟩) hHeld ?_
  rotate_left
  · intro ww hSw
    try dsimp only at hSw
    go_simp
    try with_reducible rfl
    try omega
  try simp only [Act.put, List.setIfInBounds_toArray, List.set_cons_zero, List.set_cons_succ]
  refine wpAnyH_take (i := 29) (oi := ⟨some 37, _, _, _, _, _⟩) (v := ?_) rfl (by kernel_rfl) (by kernel_rfl) (by kernel_rfl) (fun _ _ _ h => h) (Or.inl ⟨by rfl, ?_⟩) hHeld ?_
  rotate_left
  · intro ww hSw
    try dsimp only at hSw
    have O_11 := hSw.2.2.1.at_ (v := .int .i64 leaf) 11 rfl
    have O_18 := hSw.2.2.1.at_ (v := .int .i64 item) 18 rfl
    have O_16 := hSw.2.2.1.at_ (v := .int .i64 at_) 16 rfl
    have O_2 := hSw.2.2.1.at_ (v := .slice A0 n0 c0) 2 rfl
    have O_6 := hSw.2.2.1.at_ (v := .slice A1 n1 c1) 6 rfl
    have O_7 := hSw.2.2.1.at_ (v := .slice A2 n2 c2) 7 rfl
    have O_15 := hSw.2.2.1.at_ (v := .slice A3 n3 c3) 15 rfl
    have H_0 := hSw.2.1.at_ (v := .int .u32 a) 0 rfl
    have H_1 := hSw.2.1.at_ (v := .int .i64 p) 1 rfl
    go_simp
    try with_reducible rfl
    try omega
  try simp only [Act.put, List.setIfInBounds_toArray, List.set_cons_zero, List.set_cons_succ]
  refine wpAnyH_take (i := 30) (oi := ⟨some 38, _, _, _, _, _⟩) (v := .bool false) rfl (by kernel_rfl) (by kernel_rfl) (by kernel_rfl) (fun _ _ _ h => h) (Or.inl ⟨by rfl, ?_⟩) hHeld ?_
  · intro ww hSw
    try dsimp only at hSw
    go_simp
    try with_reducible rfl
    try omega
  try simp only [Act.put, List.setIfInBounds_toArray, List.set_cons_zero, List.set_cons_succ]
  refine wpAnyH_take (i := 31) (oi := ⟨some 39, _, _, _, _, _⟩) (v := .bool false) rfl (by kernel_rfl) (by kernel_rfl) (by kernel_rfl) (fun _ _ _ h => h) (Or.inl ⟨by rfl, ?_⟩) hHeld ?_
  · intro ww hSw
    try dsimp only at hSw
    go_simp
    try with_reducible rfl
    try omega
  try simp only [Act.put, List.setIfInBounds_toArray, List.set_cons_zero, List.set_cons_succ]
  refine wpAnyH_take (i := 32) (oi := ⟨some 40, _, _, _, _, _⟩) (v := .bool false) rfl (by kernel_rfl) (by kernel_rfl) (by kernel_rfl) (fun _ _ _ h => h) (Or.inl ⟨by rfl, ?_⟩) hHeld ?_
  · intro ww hSw
    try dsimp only at hSw
    go_simp
    try with_reducible rfl
    try omega
  try simp only [Act.put, List.setIfInBounds_toArray, List.set_cons_zero, List.set_cons_succ]
  refine wpAnyH_take (i := 33) (oi := ⟨some 41, _, _, _, _, _⟩) (v := ?_) rfl (by kernel_rfl) (by kernel_rfl) (by kernel_rfl) (fun _ _ _ h => h) (Or.inl ⟨by rfl, ?_⟩) hHeld ?_
  rotate_left
  · intro ww hSw
    try dsimp only at hSw
    go_simp
    try with_reducible rfl
    try omega
  try simp only [Act.put, List.setIfInBounds_toArray, List.set_cons_zero, List.set_cons_succ]
  refine wpAnyH_take (i := 34) (oi := ⟨some 42, _, _, _, _, _⟩) (v := ?_) rfl (by kernel_rfl) (by kernel_rfl) (by kernel_rfl) (fun _ _ _ h => h) (Or.inl ⟨by rfl, ?_⟩) hHeld ?_
  rotate_left
  · intro ww hSw
    try dsimp only at hSw
    go_simp
    try with_reducible rfl
    try omega
  try simp only [Act.put, List.setIfInBounds_toArray, List.set_cons_zero, List.set_cons_succ]
  refine wpAnyH_take (i := 35) (oi := ⟨some 43, _, _, _, _, _⟩) (v := ?_) rfl (by kernel_rfl) (by kernel_rfl) (by kernel_rfl) (fun _ _ _ h => h) (Or.inl ⟨by rfl, ?_⟩) hHeld ?_
  rotate_left
  · intro ww hSw
    try dsimp only at hSw
    have O_11 := hSw.2.2.1.at_ (v := .int .i64 leaf) 11 rfl
    have O_18 := hSw.2.2.1.at_ (v := .int .i64 item) 18 rfl
    have O_16 := hSw.2.2.1.at_ (v := .int .i64 at_) 16 rfl
    have O_2 := hSw.2.2.1.at_ (v := .slice A0 n0 c0) 2 rfl
    have O_6 := hSw.2.2.1.at_ (v := .slice A1 n1 c1) 6 rfl
    have O_7 := hSw.2.2.1.at_ (v := .slice A2 n2 c2) 7 rfl
    have O_15 := hSw.2.2.1.at_ (v := .slice A3 n3 c3) 15 rfl
    have H_0 := hSw.2.1.at_ (v := .int .u32 a) 0 rfl
    have H_1 := hSw.2.1.at_ (v := .int .i64 p) 1 rfl
    go_simp
    try with_reducible rfl
    try omega
  try simp only [Act.put, List.setIfInBounds_toArray, List.set_cons_zero, List.set_cons_succ]
  refine wpAnyH_take (i := 36) (oi := ⟨some 44, _, _, _, _, _⟩) (v := ?_) rfl (by kernel_rfl) (by kernel_rfl) (by kernel_rfl) (fun _ _ _ h => h) (Or.inl ⟨by rfl, ?_⟩) hHeld ?_
  rotate_left
  · intro ww hSw
    try dsimp only at hSw
    go_simp
    try with_reducible rfl
    try omega
  try simp only [Act.put, List.setIfInBounds_toArray, List.set_cons_zero, List.set_cons_succ]
  refine wpAnyH_take (i := 37) (oi := ⟨some 45, _, _, _, _, _⟩) (v := .bool false) rfl (by kernel_rfl) (by kernel_rfl) (by kernel_rfl) (fun _ _ _ h => h) (Or.inl ⟨by rfl, ?_⟩) hHeld ?_
  · intro ww hSw
    try dsimp only at hSw
    go_simp
    try with_reducible rfl
    try omega
  try simp only [Act.put, List.setIfInBounds_toArray, List.set_cons_zero, List.set_cons_succ]
  refine wpAnyH_take (i := 38) (oi := ⟨some 46, _, _, _, _, _⟩) (v := .bool false) rfl (by kernel_rfl) (by kernel_rfl) (by kernel_rfl) (fun _ _ _ h => h) (Or.inl ⟨by rfl, ?_⟩) hHeld ?_
  · intro ww hSw
    try dsimp only at hSw
    go_simp
    try with_reducible rfl
    try omega
  try simp only [Act.put, List.setIfInBounds_toArray, List.set_cons_zero, List.set_cons_succ]
  refine wpAnyH_take (i := 39) (oi := ⟨some 47, _, _, _, _, _⟩) (v := .bool false) rfl (by kernel_rfl) (by kernel_rfl) (by kernel_rfl) (fun _ _ _ h => h) (Or.inl ⟨by rfl, ?_⟩) hHeld ?_
  · intro ww hSw
    try dsimp only at hSw
    go_simp
    try with_reducible rfl
    try omega
  try simp only [Act.put, List.setIfInBounds_toArray, List.set_cons_zero, List.set_cons_succ]
  refine wpAnyH_take (i := 40) (oi := ⟨some 48, _, _, _, _, _⟩) (v := ?_) rfl (by kernel_rfl) (by kernel_rfl) (by kernel_rfl) (fun _ _ _ h => h) (Or.inl ⟨by rfl, ?_⟩) hHeld ?_
  rotate_left
  · intro ww hSw
    try dsimp only at hSw
    go_simp
    try with_reducible rfl
    try omega
  try simp only [Act.put, List.setIfInBounds_toArray, List.set_cons_zero, List.set_cons_succ]
  refine wpAnyH_take (i := 41) (oi := ⟨some 49, _, _, _, _, _⟩) (v := ?_) rfl (by kernel_rfl) (by kernel_rfl) (by kernel_rfl) (fun _ _ _ h => h) (Or.inl ⟨by rfl, ?_⟩) hHeld ?_
  rotate_left
  · intro ww hSw
    try dsimp only at hSw
    have O_11 := hSw.2.2.1.at_ (v := .int .i64 leaf) 11 rfl
    have O_18 := hSw.2.2.1.at_ (v := .int .i64 item) 18 rfl
    have O_16 := hSw.2.2.1.at_ (v := .int .i64 at_) 16 rfl
    have O_2 := hSw.2.2.1.at_ (v := .slice A0 n0 c0) 2 rfl
    have O_6 := hSw.2.2.1.at_ (v := .slice A1 n1 c1) 6 rfl
    have O_7 := hSw.2.2.1.at_ (v := .slice A2 n2 c2) 7 rfl
    have O_15 := hSw.2.2.1.at_ (v := .slice A3 n3 c3) 15 rfl
    have H_0 := hSw.2.1.at_ (v := .int .u32 a) 0 rfl
    have H_1 := hSw.2.1.at_ (v := .int .i64 p) 1 rfl
    go_simp
    try with_reducible rfl
    try omega
  try simp only [Act.put, List.setIfInBounds_toArray, List.set_cons_zero, List.set_cons_succ]
  refine wpAnyH_take (i := 42) (oi := ⟨some 50, _, _, _, _, _⟩) (v := ?_) rfl (by kernel_rfl) (by kernel_rfl) (by kernel_rfl) (fun _ _ _ h => h) (Or.inl ⟨by rfl, ?_⟩) hHeld ?_
  rotate_left
  · intro ww hSw
    try dsimp only at hSw
    go_simp
    try with_reducible rfl
    try omega
  try simp only [Act.put, List.setIfInBounds_toArray, List.set_cons_zero, List.set_cons_succ]
  refine wpAnyH_take (i := 43) (oi := ⟨some 51, _, _, _, _, _⟩) (v := .bool false) rfl (by kernel_rfl) (by kernel_rfl) (by kernel_rfl) (fun _ _ _ h => h) (Or.inl ⟨by rfl, ?_⟩) hHeld ?_
  · intro ww hSw
    try dsimp only at hSw
    go_simp
    try with_reducible rfl
    try omega
  try simp only [Act.put, List.setIfInBounds_toArray, List.set_cons_zero, List.set_cons_succ]
  refine wpAnyH_take (i := 44) (oi := ⟨some 52, _, _, _, _, _⟩) (v := .bool false) rfl (by kernel_rfl) (by kernel_rfl) (by kernel_rfl) (fun _ _ _ h => h) (Or.inl ⟨by rfl, ?_⟩) hHeld ?_
  · intro ww hSw
    try dsimp only at hSw
    go_simp
    try with_reducible rfl
    try omega
  try simp only [Act.put, List.setIfInBounds_toArray, List.set_cons_zero, List.set_cons_succ]
  refine wpAnyH_take (i := 45) (oi := ⟨some 53, _, _, _, _, _⟩) (v := .bool false) rfl (by kernel_rfl) (by kernel_rfl) (by kernel_rfl) (fun _ _ _ h => h) (Or.inl ⟨by rfl, ?_⟩) hHeld ?_
  · intro ww hSw
    try dsimp only at hSw
    go_simp
    try with_reducible rfl
    try omega
  try simp only [Act.put, List.setIfInBounds_toArray, List.set_cons_zero, List.set_cons_succ]
  refine wpAnyH_take (i := 46) (oi := ⟨some 54, _, _, _, _, _⟩) (v := ?_) rfl (by kernel_rfl) (by kernel_rfl) (by kernel_rfl) (fun _ _ _ h => h) (Or.inl ⟨by rfl, ?_⟩) hHeld ?_
  rotate_left
  · intro ww hSw
    try dsimp only at hSw
    go_simp
    try with_reducible rfl
    try omega
  try simp only [Act.put, List.setIfInBounds_toArray, List.set_cons_zero, List.set_cons_succ]
  refine wpAnyH_take (i := 47) (oi := ⟨some 55, _, _, _, _, _⟩) (v := ?_) rfl (by kernel_rfl) (by kernel_rfl) (by kernel_rfl) (fun _ _ _ h => h) (Or.inl ⟨by rfl, ?_⟩) hHeld ?_
  rotate_left
  · intro ww hSw
    try dsimp only at hSw
    go_simp
    try with_reducible rfl
    try omega
  try simp only [Act.put, List.setIfInBounds_toArray, List.set_cons_zero, List.set_cons_succ]
  refine wpAnyH_take (i := 48) (oi := ⟨some 56, _, _, _, _, _⟩) (v := ?_) rfl (by kernel_rfl) (by kernel_rfl) (by kernel_rfl) (fun _ _ _ h => h) (Or.inl ⟨by rfl, ?_⟩) hHeld ?_
  rotate_left
  · intro ww hSw
    try dsimp only at hSw
    have O_11 := hSw.2.2.1.at_ (v := .int .i64 leaf) 11 rfl
    have O_18 := hSw.2.2.1.at_ (v := .int .i64 item) 18 rfl
    have O_16 := hSw.2.2.1.at_ (v := .int .i64 at_) 16 rfl
    have O_2 := hSw.2.2.1.at_ (v := .slice A0 n0 c0) 2 rfl
    have O_6 := hSw.2.2.1.at_ (v := .slice A1 n1 c1) 6 rfl
    have O_7 := hSw.2.2.1.at_ (v := .slice A2 n2 c2) 7 rfl
    have O_15 := hSw.2.2.1.at_ (v := .slice A3 n3 c3) 15 rfl
    have H_0 := hSw.2.1.at_ (v := .int .u32 a) 0 rfl
    have H_1 := hSw.2.1.at_ (v := .int .i64 p) 1 rfl
    go_simp
    try with_reducible rfl
    try omega
  try simp only [Act.put, List.setIfInBounds_toArray, List.set_cons_zero, List.set_cons_succ]
  refine wpAnyH_take (i := 49) (oi := ⟨some 57, _, _, _, _, _⟩) (v := ?_) rfl (by kernel_rfl) (by kernel_rfl) (by kernel_rfl) (fun _ _ _ h => h) (Or.inl ⟨by rfl, ?_⟩) hHeld ?_
  rotate_left
  · intro ww hSw
    try dsimp only at hSw
    go_simp
    try with_reducible rfl
    try omega
  try simp only [Act.put, List.setIfInBounds_toArray, List.set_cons_zero, List.set_cons_succ]
  refine wpAnyH_take (i := 50) (oi := ⟨some 58, _, _, _, _, _⟩) (v := .bool false) rfl (by kernel_rfl) (by kernel_rfl) (by kernel_rfl) (fun _ _ _ h => h) (Or.inl ⟨by rfl, ?_⟩) hHeld ?_
  · intro ww hSw
    try dsimp only at hSw
    go_simp
    try with_reducible rfl
    try omega
  try simp only [Act.put, List.setIfInBounds_toArray, List.set_cons_zero, List.set_cons_succ]
  refine wpAnyH_take (i := 51) (oi := ⟨some 59, _, _, _, _, _⟩) (v := .bool false) rfl (by kernel_rfl) (by kernel_rfl) (by kernel_rfl) (fun _ _ _ h => h) (Or.inl ⟨by rfl, ?_⟩) hHeld ?_
  · intro ww hSw
    try dsimp only at hSw
    go_simp
    try with_reducible rfl
    try omega
  try simp only [Act.put, List.setIfInBounds_toArray, List.set_cons_zero, List.set_cons_succ]
  refine wpAnyH_take (i := 52) (oi := ⟨some 60, _, _, _, _, _⟩) (v := .bool false) rfl (by kernel_rfl) (by kernel_rfl) (by kernel_rfl) (fun _ _ _ h => h) (Or.inl ⟨by rfl, ?_⟩) hHeld ?_
  · intro ww hSw
    try dsimp only at hSw
    go_simp
    try with_reducible rfl
    try omega
  try simp only [Act.put, List.setIfInBounds_toArray, List.set_cons_zero, List.set_cons_succ]
  refine wpAnyH_take (i := 53) (oi := ⟨some 61, _, _, _, _, _⟩) (v := ?_) rfl (by kernel_rfl) (by kernel_rfl) (by kernel_rfl) (fun _ _ _ h => h) (Or.inl ⟨by rfl, ?_⟩) hHeld ?_
  rotate_left
  · intro ww hSw
    try dsimp only at hSw
    go_simp
    try with_reducible rfl
    try omega
  try simp only [Act.put, List.setIfInBounds_toArray, List.set_cons_zero, List.set_cons_succ]
  refine wpAnyH_take (i := 54) (oi := ⟨some 62, _, _, _, _, _⟩) (v := ?_) rfl (by kernel_rfl) (by kernel_rfl) (by kernel_rfl) (fun _ _ _ h => h) (Or.inl ⟨by rfl, ?_⟩) hHeld ?_
  rotate_left
  · intro ww hSw
    try dsimp only at hSw
    go_simp
    try with_reducible rfl
    try omega
  try simp only [Act.put, List.setIfInBounds_toArray, List.set_cons_zero, List.set_cons_succ]
  refine wpAnyH_take (i := 55) (oi := ⟨some 63, _, _, _, _, _⟩) (v := ?_) rfl (by kernel_rfl) (by kernel_rfl) (by kernel_rfl) (fun _ _ _ h => h) (Or.inl ⟨by rfl, ?_⟩) hHeld ?_
  rotate_left
  · intro ww hSw
    try dsimp only at hSw
    have O_11 := hSw.2.2.1.at_ (v := .int .i64 leaf) 11 rfl
    have O_18 := hSw.2.2.1.at_ (v := .int .i64 item) 18 rfl
    have O_16 := hSw.2.2.1.at_ (v := .int .i64 at_) 16 rfl
    have O_2 := hSw.2.2.1.at_ (v := .slice A0 n0 c0) 2 rfl
    have O_6 := hSw.2.2.1.at_ (v := .slice A1 n1 c1) 6 rfl
    have O_7 := hSw.2.2.1.at_ (v := .slice A2 n2 c2) 7 rfl
    have O_15 := hSw.2.2.1.at_ (v := .slice A3 n3 c3) 15 rfl
    have H_0 := hSw.2.1.at_ (v := .int .u32 a) 0 rfl
    have H_1 := hSw.2.1.at_ (v := .int .i64 p) 1 rfl
    go_simp
    try with_reducible rfl
    try omega
  try simp only [Act.put, List.setIfInBounds_toArray, List.set_cons_zero, List.set_cons_succ]
  refine wpAnyH_take (i := 56) (oi := ⟨some 64, _, _, _, _, _⟩) (v := ?_) rfl (by kernel_rfl) (by kernel_rfl) (by kernel_rfl) (fun _ _ _ h => h) (Or.inl ⟨by rfl, ?_⟩) hHeld ?_
  rotate_left
  · intro ww hSw
    try dsimp only at hSw
    go_simp
    try with_reducible rfl
    try omega
  try simp only [Act.put, List.setIfInBounds_toArray, List.set_cons_zero, List.set_cons_succ]
  refine wpAnyH_take (i := 57) (oi := ⟨some 65, _, _, _, _, _⟩) (v := .bool false) rfl (by kernel_rfl) (by kernel_rfl) (by kernel_rfl) (fun _ _ _ h => h) (Or.inl ⟨by rfl, ?_⟩) hHeld ?_
  · intro ww hSw
    try dsimp only at hSw
    go_simp
    try with_reducible rfl
    try omega
  try simp only [Act.put, List.setIfInBounds_toArray, List.set_cons_zero, List.set_cons_succ]
  refine wpAnyH_take (i := 58) (oi := ⟨some 66, _, _, _, _, _⟩) (v := .bool false) rfl (by kernel_rfl) (by kernel_rfl) (by kernel_rfl) (fun _ _ _ h => h) (Or.inl ⟨by rfl, ?_⟩) hHeld ?_
  · intro ww hSw
    try dsimp only at hSw
    go_simp
    try with_reducible rfl
    try omega
  try simp only [Act.put, List.setIfInBounds_toArray, List.set_cons_zero, List.set_cons_succ]
  refine wpAnyH_done (by kernel_rfl) ?_ _
  replace K := hHeld.1
  replace H := hHeld.2.1
  replace O := hHeld.2.2.1
  clear hHeld
  clear e0 e1 e2 e3 e4 e5 e7 e8 e9 T q0 q1 q2 q3 q4 q5 q7 q8 q9
  go_wp2
  go_loopw [5] (fun i wr => ∃ k : Nat, k ≤ n0 ∧ i = .int .i64 k ∧ Hid (∀ j, j < k → ∃ x : Nat, gi xs j = (x : Int) ∧ a ≤ x ∧ x < a + M) ∧ Below w.heap.size w wr ∧ Bk wr gH 27 #[.int .u32 a, .int .i64 p, .slice A n c, .int .i64 sh, .int .i64 wo, .int .i64 qu, .int .i64 tr] ∧ Bk wr gO 38 (opv ⟨A0, n0, c0, A1, n1, c1, A2, n2, c2, A3, n3, c3⟩ ⟨kind, addr, err, aad, used, phase, shard, sought, leaf, bit, word, full, at_, tries, item, stamp⟩)) (fun i _ => n0 - (intOf i).toNat)
  case atStart => exact ⟨0, Nat.zero_le _, rfl, Lib.hid (fun j hj => by omega), K, H, O⟩
  case round =>
    obtain ⟨k, hk, rfl, hj, K, H, O⟩ := hrel
    by_cases hlt : k < n0
    · obtain ⟨b, o, rfl, hb, hc⟩ := hI.get (j := k) hlt
      obtain ⟨x, hx, hx0⟩ := hxs k hlt
      rw [hx] at hc
      by_cases h1 : a ≤ x
      · by_cases h2 : x < a + M
        · have T1 : ∀ w, Hid (Calls Try.prog 27 #[.agg #[.int .u32 a, .int .i64 p], .int .u32 x] w fun e w' => e = .returned (.tuple #[.int .i64 (x - a : Nat), .int .i64 0]) ∧ Below w.heap.size w w') := fun w => roffset_in x hx0 hM h1 h2
          generalize x - a = dd at T1
          have HX := Lib.hid (show gi xs k = (x : Int) ∧ a ≤ x ∧ x < a + M from ⟨hx, h1, h2⟩)
          clear hx h1 h2
          have e1 : (k : Int) < (n0 : Int) := by omega
          have e2 : ((k : Int)).toNat = k := by omega
          have O_2 := O.at_ (v := .slice (some ⟨b, o, none⟩) n0 c0) 2 rfl
          have O_z := O.lt
          go_upto_region 6 with (fail)
          clear O_2 O_z
          refine wp_region_held_drew (S := fun w' => Below w.heap.size w w' ∧ Bk w' gH 27 (#[.int .u32 a, .int .i64 p, .slice A n c, .int .i64 sh, .int .i64 wo, .int .i64 qu, .int .i64 tr]) ∧ Bk w' gO 38 (opv ⟨(some ⟨b, o, none⟩), n0, c0, A1, n1, c1, A2, n2, c2, A3, n3, c3⟩ ⟨kind, addr, err, aad, used, phase, shard, sought, leaf, bit, word, full, at_, tries, item, stamp⟩) ∧ True) (by kernel_rfl) ⟨K.drew, H.below ((Below.refl _ _).drew), O.below ((Below.refl _ _).drew), trivial⟩ (fun hHeld => ?_)
          generalize wr.drew = v51 at hHeld ⊢
          refine wpAnyH_take (i := 0) (oi := ⟨some 76, _, _, _, _, _⟩) (v := ?_) rfl (by kernel_rfl) (by kernel_rfl) (by kernel_rfl) (fun _ _ _ h => h) (Or.inl ⟨by rfl, ?_⟩) hHeld ?_
          rotate_left
          · intro ww hSw
            try dsimp only at hSw
            go_simp
            try with_reducible rfl
            try omega
          try simp only [Act.put, List.setIfInBounds_toArray, List.set_cons_zero, List.set_cons_succ]
          refine wpAnyH_take (i := 1) (oi := ⟨some 77, _, _, _, _, _⟩) (v := ?_) rfl (by kernel_rfl) (by kernel_rfl) (by kernel_rfl) (fun _ _ _ h => h) (Or.inl ⟨by rfl, ?_⟩) hHeld ?_
          rotate_left
          · intro ww hSw
            try dsimp only at hSw
            have H_0 := hSw.2.1.at_ (v := .int .u32 a) 0 rfl
            have H_1 := hSw.2.1.at_ (v := .int .i64 p) 1 rfl
            have O_2 := hSw.2.2.1.at_ (v := .slice (some ⟨b, o, none⟩) n0 c0) 2 rfl
            have X := (hSw.1.cell (p := ⟨b, o + k, none⟩) hb).trans hc
            go_simp
            try with_reducible rfl
            try omega
          try simp only [Act.put, List.setIfInBounds_toArray, List.set_cons_zero, List.set_cons_succ]
          refine wpAnyH_take (i := 2) (oi := ⟨some 78, _, _, _, _, _⟩) (v := ?_) rfl (by kernel_rfl) (by kernel_rfl) (by kernel_rfl) (fun _ _ _ h => h) (Or.inl ⟨by rfl, ?_⟩) hHeld ?_
          rotate_left
          · intro ww hSw
            try dsimp only at hSw
            go_simp
            try with_reducible rfl
            try omega
          try simp only [Act.put, List.setIfInBounds_toArray, List.set_cons_zero, List.set_cons_succ]
          refine wpAnyH_take (i := 3) (oi := ⟨some 79, _, _, _, _, _⟩) (v := ?_) rfl (by kernel_rfl) (by kernel_rfl) (by kernel_rfl) (fun _ _ _ h => h) (Or.inl ⟨by rfl, ?_⟩) hHeld ?_
          rotate_left
          · intro ww hSw
            try dsimp only at hSw
            go_simp
            try with_reducible rfl
            try omega
          try simp only [Act.put, List.setIfInBounds_toArray, List.set_cons_zero, List.set_cons_succ]
          refine wpAnyH_take (i := 4) (oi := ⟨some 80, _, _, _, _, _⟩) (v := ?_) rfl (by kernel_rfl) (by kernel_rfl) (by kernel_rfl) (fun _ _ _ h => h) (Or.inl ⟨by rfl, ?_⟩) hHeld ?_
          rotate_left
          · intro ww hSw
            try dsimp only at hSw
            have H_0 := hSw.2.1.at_ (v := .int .u32 a) 0 rfl
            have H_1 := hSw.2.1.at_ (v := .int .i64 p) 1 rfl
            have O_2 := hSw.2.2.1.at_ (v := .slice (some ⟨b, o, none⟩) n0 c0) 2 rfl
            have X := (hSw.1.cell (p := ⟨b, o + k, none⟩) hb).trans hc
            go_simp
            try with_reducible rfl
            try omega
          try simp only [Act.put, List.setIfInBounds_toArray, List.set_cons_zero, List.set_cons_succ]
          refine wpAnyH_take (i := 5) (oi := ⟨some 81, _, _, _, _, _⟩) (v := ?_) rfl (by kernel_rfl) (by kernel_rfl) (by kernel_rfl) (fun _ _ _ h => h) (Or.inl ⟨by rfl, ?_⟩) hHeld ?_
          rotate_left
          · intro ww hSw
            try dsimp only at hSw
            go_simp
            try with_reducible rfl
            try omega
          try simp only [Act.put, List.setIfInBounds_toArray, List.set_cons_zero, List.set_cons_succ]
          refine wpAnyH_take (i := 6) (oi := ⟨some 82, _, _, _, _, _⟩) (v := .pointer (some ⟨b, o + k, none⟩)) rfl (by kernel_rfl) (by kernel_rfl) (by kernel_rfl) (fun _ _ _ h => h) (Or.inl ⟨by rfl, ?_⟩) hHeld ?_
          · intro ww hSw
            try dsimp only at hSw
            go_simp
            try with_reducible rfl
            try omega
          try simp only [Act.put, List.setIfInBounds_toArray, List.set_cons_zero, List.set_cons_succ]
          refine wpAnyH_take (i := 7) (oi := ⟨some 83, _, _, _, _, _⟩) (v := ?_) rfl (by kernel_rfl) (by kernel_rfl) (by kernel_rfl) (fun _ _ _ h => h) (Or.inl ⟨by rfl, ?_⟩) hHeld ?_
          rotate_left
          · intro ww hSw
            try dsimp only at hSw
            have H_0 := hSw.2.1.at_ (v := .int .u32 a) 0 rfl
            have H_1 := hSw.2.1.at_ (v := .int .i64 p) 1 rfl
            have O_2 := hSw.2.2.1.at_ (v := .slice (some ⟨b, o, none⟩) n0 c0) 2 rfl
            have X := (hSw.1.cell (p := ⟨b, o + k, none⟩) hb).trans hc
            go_simp
            try with_reducible rfl
            try omega
          try simp only [Act.put, List.setIfInBounds_toArray, List.set_cons_zero, List.set_cons_succ]
          refine wpAnyH_ready (rs := [8]) (by kernel_rfl) (by simp) ?_
          refine AllReadyH.cons (o := ⟨some 84, _, _, _, _, _⟩) rfl (fun K0 hK => ?_) AllReadyH.nil
          go_simp
          refine ((T1 _).out).mono ?_
          rintro e v52 ⟨rfl, K'⟩
          refine hK.out _ _ ⟨Below.then_ hHeld.1 K', hHeld.2.1.below K', hHeld.2.2.1.below K', trivial⟩ (fun hHeld' => ?_)
          clear hHeld K' hK K0
          have hHeld := hHeld'
          clear hHeld'
          try simp only [Act.put, List.setIfInBounds_toArray, List.set_cons_zero, List.set_cons_succ]
          refine wpAnyH_take (i := 9) (oi := ⟨some 75, _, _, _, _, _⟩) (v := ?_) rfl (by kernel_rfl) (by kernel_rfl) (by kernel_rfl) (fun _ _ _ h => h) (Or.inl ⟨by rfl, ?_⟩) hHeld ?_
          rotate_left
          · intro ww hSw
            try dsimp only at hSw
            go_simp
            try with_reducible rfl
            try omega
          try simp only [Act.put, List.setIfInBounds_toArray, List.set_cons_zero, List.set_cons_succ]
          refine wpAnyH_take (i := 10) (oi := ⟨some 85, _, _, _, _, _⟩) (v := ?_) rfl (by kernel_rfl) (by kernel_rfl) (by kernel_rfl) (fun _ _ _ h => h) (Or.inl ⟨by rfl, ?_⟩) hHeld ?_
          rotate_left
          · intro ww hSw
            try dsimp only at hSw
            go_simp
            try with_reducible rfl
            try omega
          try simp only [Act.put, List.setIfInBounds_toArray, List.set_cons_zero, List.set_cons_succ]
          refine wpAnyH_take (i := 11) (oi := ⟨some 86, _, _, _, _, _⟩) (v := ?_) rfl (by kernel_rfl) (by kernel_rfl) (by kernel_rfl) (fun _ _ _ h => h) (Or.inl ⟨by rfl, ?_⟩) hHeld ?_
          rotate_left
          · intro ww hSw
            try dsimp only at hSw
            go_simp
            try with_reducible rfl
            try omega
          try simp only [Act.put, List.setIfInBounds_toArray, List.set_cons_zero, List.set_cons_succ]
          refine wpAnyH_take (i := 12) (oi := ⟨some 6, _, _, _, _, _⟩) (v := ?_) rfl (by kernel_rfl) (by kernel_rfl) (by kernel_rfl) (fun _ _ _ h => h) (Or.inl ⟨by rfl, ?_⟩) hHeld ?_
          rotate_left
          · intro ww hSw
            try dsimp only at hSw
            go_simp
            try with_reducible rfl
            try omega
          try simp only [Act.put, List.setIfInBounds_toArray, List.set_cons_zero, List.set_cons_succ]
          refine wpAnyH_take (i := 13) (oi := ⟨some 7, _, _, _, _, _⟩) (v := ?_) rfl (by kernel_rfl) (by kernel_rfl) (by kernel_rfl) (fun _ _ _ h => h) (Or.inl ⟨by rfl, ?_⟩) hHeld ?_
          rotate_left
          · intro ww hSw
            try dsimp only at hSw
            go_simp
            try with_reducible rfl
            try omega
          try simp only [Act.put, List.setIfInBounds_toArray, List.set_cons_zero, List.set_cons_succ]
          refine wpAnyH_done (by kernel_rfl) ?_ _
          replace K := hHeld.1
          replace H := hHeld.2.1
          replace O := hHeld.2.2.1
          clear hHeld
          go_wp2
          go_roundw
          case rel => exact ⟨k + 1, by omega, by go_num, Lib.hid (fun j hj2 => by
              by_cases e : j = k
              · subst e; exact ⟨x, HX.out.1, HX.out.2⟩
              · exact hj.out j (by omega)), K, H, O⟩
          case measure => simp [intOf]; omega
        · have T1 := fun w => Lib.hid (roffset_high (w := w) (p := p) x hx0 hM (show a + M ≤ x by omega))
          clear hx h1 h2
          have e1 : (k : Int) < (n0 : Int) := by omega
          have e2 : ((k : Int)).toNat = k := by omega
          have O_2 := O.at_ (v := .slice (some ⟨b, o, none⟩) n0 c0) 2 rfl
          have O_z := O.lt
          go_upto_region 6 with (fail)
          clear O_2 O_z
          refine wp_region_held_drew (S := fun w' => Below w.heap.size w w' ∧ Bk w' gH 27 (#[.int .u32 a, .int .i64 p, .slice A n c, .int .i64 sh, .int .i64 wo, .int .i64 qu, .int .i64 tr]) ∧ Bk w' gO 38 (opv ⟨(some ⟨b, o, none⟩), n0, c0, A1, n1, c1, A2, n2, c2, A3, n3, c3⟩ ⟨kind, addr, err, aad, used, phase, shard, sought, leaf, bit, word, full, at_, tries, item, stamp⟩) ∧ True) (by kernel_rfl) ⟨K.drew, H.below ((Below.refl _ _).drew), O.below ((Below.refl _ _).drew), trivial⟩ (fun hHeld => ?_)
          generalize wr.drew = v51 at hHeld ⊢
          refine wpAnyH_take (i := 0) (oi := ⟨some 76, _, _, _, _, _⟩) (v := ?_) rfl (by kernel_rfl) (by kernel_rfl) (by kernel_rfl) (fun _ _ _ h => h) (Or.inl ⟨by rfl, ?_⟩) hHeld ?_
          rotate_left
          · intro ww hSw
            try dsimp only at hSw
            go_simp
            try with_reducible rfl
            try omega
          try simp only [Act.put, List.setIfInBounds_toArray, List.set_cons_zero, List.set_cons_succ]
          refine wpAnyH_take (i := 1) (oi := ⟨some 77, _, _, _, _, _⟩) (v := ?_) rfl (by kernel_rfl) (by kernel_rfl) (by kernel_rfl) (fun _ _ _ h => h) (Or.inl ⟨by rfl, ?_⟩) hHeld ?_
          rotate_left
          · intro ww hSw
            try dsimp only at hSw
            have H_0 := hSw.2.1.at_ (v := .int .u32 a) 0 rfl
            have H_1 := hSw.2.1.at_ (v := .int .i64 p) 1 rfl
            have O_2 := hSw.2.2.1.at_ (v := .slice (some ⟨b, o, none⟩) n0 c0) 2 rfl
            have X := (hSw.1.cell (p := ⟨b, o + k, none⟩) hb).trans hc
            go_simp
            try with_reducible rfl
            try omega
          try simp only [Act.put, List.setIfInBounds_toArray, List.set_cons_zero, List.set_cons_succ]
          refine wpAnyH_take (i := 2) (oi := ⟨some 78, _, _, _, _, _⟩) (v := ?_) rfl (by kernel_rfl) (by kernel_rfl) (by kernel_rfl) (fun _ _ _ h => h) (Or.inl ⟨by rfl, ?_⟩) hHeld ?_
          rotate_left
          · intro ww hSw
            try dsimp only at hSw
            go_simp
            try with_reducible rfl
            try omega
          try simp only [Act.put, List.setIfInBounds_toArray, List.set_cons_zero, List.set_cons_succ]
          refine wpAnyH_take (i := 3) (oi := ⟨some 79, _, _, _, _, _⟩) (v := ?_) rfl (by kernel_rfl) (by kernel_rfl) (by kernel_rfl) (fun _ _ _ h => h) (Or.inl ⟨by rfl, ?_⟩) hHeld ?_
          rotate_left
          · intro ww hSw
            try dsimp only at hSw
            go_simp
            try with_reducible rfl
            try omega
          try simp only [Act.put, List.setIfInBounds_toArray, List.set_cons_zero, List.set_cons_succ]
          refine wpAnyH_take (i := 4) (oi := ⟨some 80, _, _, _, _, _⟩) (v := ?_) rfl (by kernel_rfl) (by kernel_rfl) (by kernel_rfl) (fun _ _ _ h => h) (Or.inl ⟨by rfl, ?_⟩) hHeld ?_
          rotate_left
          · intro ww hSw
            try dsimp only at hSw
            have H_0 := hSw.2.1.at_ (v := .int .u32 a) 0 rfl
            have H_1 := hSw.2.1.at_ (v := .int .i64 p) 1 rfl
            have O_2 := hSw.2.2.1.at_ (v := .slice (some ⟨b, o, none⟩) n0 c0) 2 rfl
            have X := (hSw.1.cell (p := ⟨b, o + k, none⟩) hb).trans hc
            go_simp
            try with_reducible rfl
            try omega
          try simp only [Act.put, List.setIfInBounds_toArray, List.set_cons_zero, List.set_cons_succ]
          refine wpAnyH_take (i := 5) (oi := ⟨some 81, _, _, _, _, _⟩) (v := ?_) rfl (by kernel_rfl) (by kernel_rfl) (by kernel_rfl) (fun _ _ _ h => h) (Or.inl ⟨by rfl, ?_⟩) hHeld ?_
          rotate_left
          · intro ww hSw
            try dsimp only at hSw
            go_simp
            try with_reducible rfl
            try omega
          try simp only [Act.put, List.setIfInBounds_toArray, List.set_cons_zero, List.set_cons_succ]
          refine wpAnyH_take (i := 6) (oi := ⟨some 82, _, _, _, _, _⟩) (v := .pointer (some ⟨b, o + k, none⟩)) rfl (by kernel_rfl) (by kernel_rfl) (by kernel_rfl) (fun _ _ _ h => h) (Or.inl ⟨by rfl, ?_⟩) hHeld ?_
          · intro ww hSw
            try dsimp only at hSw
            go_simp
            try with_reducible rfl
            try omega
          try simp only [Act.put, List.setIfInBounds_toArray, List.set_cons_zero, List.set_cons_succ]
          refine wpAnyH_take (i := 7) (oi := ⟨some 83, _, _, _, _, _⟩) (v := ?_) rfl (by kernel_rfl) (by kernel_rfl) (by kernel_rfl) (fun _ _ _ h => h) (Or.inl ⟨by rfl, ?_⟩) hHeld ?_
          rotate_left
          · intro ww hSw
            try dsimp only at hSw
            have H_0 := hSw.2.1.at_ (v := .int .u32 a) 0 rfl
            have H_1 := hSw.2.1.at_ (v := .int .i64 p) 1 rfl
            have O_2 := hSw.2.2.1.at_ (v := .slice (some ⟨b, o, none⟩) n0 c0) 2 rfl
            have X := (hSw.1.cell (p := ⟨b, o + k, none⟩) hb).trans hc
            go_simp
            try with_reducible rfl
            try omega
          try simp only [Act.put, List.setIfInBounds_toArray, List.set_cons_zero, List.set_cons_succ]
          refine wpAnyH_ready (rs := [8]) (by kernel_rfl) (by simp) ?_
          refine AllReadyH.cons (o := ⟨some 84, _, _, _, _, _⟩) rfl (fun K0 hK => ?_) AllReadyH.nil
          go_simp
          refine ((T1 _).out).mono ?_
          rintro e v52 ⟨rfl, K'⟩
          refine hK.out _ _ ⟨Below.then_ hHeld.1 K', hHeld.2.1.below K', hHeld.2.2.1.below K', trivial⟩ (fun hHeld' => ?_)
          clear hHeld K' hK K0
          have hHeld := hHeld'
          clear hHeld'
          try simp only [Act.put, List.setIfInBounds_toArray, List.set_cons_zero, List.set_cons_succ]
          refine wpAnyH_take (i := 9) (oi := ⟨some 75, _, _, _, _, _⟩) (v := ?_) rfl (by kernel_rfl) (by kernel_rfl) (by kernel_rfl) (fun _ _ _ h => h) (Or.inl ⟨by rfl, ?_⟩) hHeld ?_
          rotate_left
          · intro ww hSw
            try dsimp only at hSw
            go_simp
            try with_reducible rfl
            try omega
          try simp only [Act.put, List.setIfInBounds_toArray, List.set_cons_zero, List.set_cons_succ]
          refine wpAnyH_take (i := 10) (oi := ⟨some 85, _, _, _, _, _⟩) (v := ?_) rfl (by kernel_rfl) (by kernel_rfl) (by kernel_rfl) (fun _ _ _ h => h) (Or.inl ⟨by rfl, ?_⟩) hHeld ?_
          rotate_left
          · intro ww hSw
            try dsimp only at hSw
            go_simp
            try with_reducible rfl
            try omega
          try simp only [Act.put, List.setIfInBounds_toArray, List.set_cons_zero, List.set_cons_succ]
          refine wpAnyH_take (i := 11) (oi := ⟨some 86, _, _, _, _, _⟩) (v := ?_) rfl (by kernel_rfl) (by kernel_rfl) (by kernel_rfl) (fun _ _ _ h => h) (Or.inl ⟨by rfl, ?_⟩) hHeld ?_
          rotate_left
          · intro ww hSw
            try dsimp only at hSw
            go_simp
            try with_reducible rfl
            try omega
          try simp only [Act.put, List.setIfInBounds_toArray, List.set_cons_zero, List.set_cons_succ]
          refine wpAnyH_take (i := 12) (oi := ⟨some 6, _, _, _, _, _⟩) (v := ?_) rfl (by kernel_rfl) (by kernel_rfl) (by kernel_rfl) (fun _ _ _ h => h) (Or.inl ⟨by rfl, ?_⟩) hHeld ?_
          rotate_left
          · intro ww hSw
            try dsimp only at hSw
            go_simp
            try with_reducible rfl
            try omega
          try simp only [Act.put, List.setIfInBounds_toArray, List.set_cons_zero, List.set_cons_succ]
          refine wpAnyH_take (i := 13) (oi := ⟨some 7, _, _, _, _, _⟩) (v := ?_) rfl (by kernel_rfl) (by kernel_rfl) (by kernel_rfl) (fun _ _ _ h => h) (Or.inl ⟨by rfl, ?_⟩) hHeld ?_
          rotate_left
          · intro ww hSw
            try dsimp only at hSw
            go_simp
            try with_reducible rfl
            try omega
          try simp only [Act.put, List.setIfInBounds_toArray, List.set_cons_zero, List.set_cons_succ]
          refine wpAnyH_done (by kernel_rfl) ?_ _
          replace K := hHeld.1
          replace H := hHeld.2.1
          replace O := hHeld.2.2.1
          clear hHeld
          go_wp2
          go_ret
          exact ⟨false, rfl, (fun e => by cases e), K⟩
      · have T1 := fun w => Lib.hid (roffset_low (w := w) (p := p) x (show x < a by omega))
        clear hx h1
        have e1 : (k : Int) < (n0 : Int) := by omega
        have e2 : ((k : Int)).toNat = k := by omega
        have O_2 := O.at_ (v := .slice (some ⟨b, o, none⟩) n0 c0) 2 rfl
        have O_z := O.lt
        go_upto_region 6 with (fail)
        clear O_2 O_z
        refine wp_region_held_drew (S := fun w' => Below w.heap.size w w' ∧ Bk w' gH 27 (#[.int .u32 a, .int .i64 p, .slice A n c, .int .i64 sh, .int .i64 wo, .int .i64 qu, .int .i64 tr]) ∧ Bk w' gO 38 (opv ⟨(some ⟨b, o, none⟩), n0, c0, A1, n1, c1, A2, n2, c2, A3, n3, c3⟩ ⟨kind, addr, err, aad, used, phase, shard, sought, leaf, bit, word, full, at_, tries, item, stamp⟩) ∧ True) (by kernel_rfl) ⟨K.drew, H.below ((Below.refl _ _).drew), O.below ((Below.refl _ _).drew), trivial⟩ (fun hHeld => ?_)
        generalize wr.drew = v51 at hHeld ⊢
        refine wpAnyH_take (i := 0) (oi := ⟨some 76, _, _, _, _, _⟩) (v := ?_) rfl (by kernel_rfl) (by kernel_rfl) (by kernel_rfl) (fun _ _ _ h => h) (Or.inl ⟨by rfl, ?_⟩) hHeld ?_
        rotate_left
        · intro ww hSw
          try dsimp only at hSw
          go_simp
          try with_reducible rfl
          try omega
        try simp only [Act.put, List.setIfInBounds_toArray, List.set_cons_zero, List.set_cons_succ]
        refine wpAnyH_take (i := 1) (oi := ⟨some 77, _, _, _, _, _⟩) (v := ?_) rfl (by kernel_rfl) (by kernel_rfl) (by kernel_rfl) (fun _ _ _ h => h) (Or.inl ⟨by rfl, ?_⟩) hHeld ?_
        rotate_left
        · intro ww hSw
          try dsimp only at hSw
          have H_0 := hSw.2.1.at_ (v := .int .u32 a) 0 rfl
          have H_1 := hSw.2.1.at_ (v := .int .i64 p) 1 rfl
          have O_2 := hSw.2.2.1.at_ (v := .slice (some ⟨b, o, none⟩) n0 c0) 2 rfl
          have X := (hSw.1.cell (p := ⟨b, o + k, none⟩) hb).trans hc
          go_simp
          try with_reducible rfl
          try omega
        try simp only [Act.put, List.setIfInBounds_toArray, List.set_cons_zero, List.set_cons_succ]
        refine wpAnyH_take (i := 2) (oi := ⟨some 78, _, _, _, _, _⟩) (v := ?_) rfl (by kernel_rfl) (by kernel_rfl) (by kernel_rfl) (fun _ _ _ h => h) (Or.inl ⟨by rfl, ?_⟩) hHeld ?_
        rotate_left
        · intro ww hSw
          try dsimp only at hSw
          go_simp
          try with_reducible rfl
          try omega
        try simp only [Act.put, List.setIfInBounds_toArray, List.set_cons_zero, List.set_cons_succ]
        refine wpAnyH_take (i := 3) (oi := ⟨some 79, _, _, _, _, _⟩) (v := ?_) rfl (by kernel_rfl) (by kernel_rfl) (by kernel_rfl) (fun _ _ _ h => h) (Or.inl ⟨by rfl, ?_⟩) hHeld ?_
        rotate_left
        · intro ww hSw
          try dsimp only at hSw
          go_simp
          try with_reducible rfl
          try omega
        try simp only [Act.put, List.setIfInBounds_toArray, List.set_cons_zero, List.set_cons_succ]
        refine wpAnyH_take (i := 4) (oi := ⟨some 80, _, _, _, _, _⟩) (v := ?_) rfl (by kernel_rfl) (by kernel_rfl) (by kernel_rfl) (fun _ _ _ h => h) (Or.inl ⟨by rfl, ?_⟩) hHeld ?_
        rotate_left
        · intro ww hSw
          try dsimp only at hSw
          have H_0 := hSw.2.1.at_ (v := .int .u32 a) 0 rfl
          have H_1 := hSw.2.1.at_ (v := .int .i64 p) 1 rfl
          have O_2 := hSw.2.2.1.at_ (v := .slice (some ⟨b, o, none⟩) n0 c0) 2 rfl
          have X := (hSw.1.cell (p := ⟨b, o + k, none⟩) hb).trans hc
          go_simp
          try with_reducible rfl
          try omega
        try simp only [Act.put, List.setIfInBounds_toArray, List.set_cons_zero, List.set_cons_succ]
        refine wpAnyH_take (i := 5) (oi := ⟨some 81, _, _, _, _, _⟩) (v := ?_) rfl (by kernel_rfl) (by kernel_rfl) (by kernel_rfl) (fun _ _ _ h => h) (Or.inl ⟨by rfl, ?_⟩) hHeld ?_
        rotate_left
        · intro ww hSw
          try dsimp only at hSw
          go_simp
          try with_reducible rfl
          try omega
        try simp only [Act.put, List.setIfInBounds_toArray, List.set_cons_zero, List.set_cons_succ]
        refine wpAnyH_take (i := 6) (oi := ⟨some 82, _, _, _, _, _⟩) (v := .pointer (some ⟨b, o + k, none⟩)) rfl (by kernel_rfl) (by kernel_rfl) (by kernel_rfl) (fun _ _ _ h => h) (Or.inl ⟨by rfl, ?_⟩) hHeld ?_
        · intro ww hSw
          try dsimp only at hSw
          go_simp
          try with_reducible rfl
          try omega
        try simp only [Act.put, List.setIfInBounds_toArray, List.set_cons_zero, List.set_cons_succ]
        refine wpAnyH_take (i := 7) (oi := ⟨some 83, _, _, _, _, _⟩) (v := ?_) rfl (by kernel_rfl) (by kernel_rfl) (by kernel_rfl) (fun _ _ _ h => h) (Or.inl ⟨by rfl, ?_⟩) hHeld ?_
        rotate_left
        · intro ww hSw
          try dsimp only at hSw
          have H_0 := hSw.2.1.at_ (v := .int .u32 a) 0 rfl
          have H_1 := hSw.2.1.at_ (v := .int .i64 p) 1 rfl
          have O_2 := hSw.2.2.1.at_ (v := .slice (some ⟨b, o, none⟩) n0 c0) 2 rfl
          have X := (hSw.1.cell (p := ⟨b, o + k, none⟩) hb).trans hc
          go_simp
          try with_reducible rfl
          try omega
        try simp only [Act.put, List.setIfInBounds_toArray, List.set_cons_zero, List.set_cons_succ]
        refine wpAnyH_ready (rs := [8]) (by kernel_rfl) (by simp) ?_
        refine AllReadyH.cons (o := ⟨some 84, _, _, _, _, _⟩) rfl (fun K0 hK => ?_) AllReadyH.nil
        go_simp
        refine ((T1 _).out).mono ?_
        rintro e v52 ⟨rfl, K'⟩
        refine hK.out _ _ ⟨Below.then_ hHeld.1 K', hHeld.2.1.below K', hHeld.2.2.1.below K', trivial⟩ (fun hHeld' => ?_)
        clear hHeld K' hK K0
        have hHeld := hHeld'
        clear hHeld'
        try simp only [Act.put, List.setIfInBounds_toArray, List.set_cons_zero, List.set_cons_succ]
        refine wpAnyH_take (i := 9) (oi := ⟨some 75, _, _, _, _, _⟩) (v := ?_) rfl (by kernel_rfl) (by kernel_rfl) (by kernel_rfl) (fun _ _ _ h => h) (Or.inl ⟨by rfl, ?_⟩) hHeld ?_
        rotate_left
        · intro ww hSw
          try dsimp only at hSw
          go_simp
          try with_reducible rfl
          try omega
        try simp only [Act.put, List.setIfInBounds_toArray, List.set_cons_zero, List.set_cons_succ]
        refine wpAnyH_take (i := 10) (oi := ⟨some 85, _, _, _, _, _⟩) (v := ?_) rfl (by kernel_rfl) (by kernel_rfl) (by kernel_rfl) (fun _ _ _ h => h) (Or.inl ⟨by rfl, ?_⟩) hHeld ?_
        rotate_left
        · intro ww hSw
          try dsimp only at hSw
          go_simp
          try with_reducible rfl
          try omega
        try simp only [Act.put, List.setIfInBounds_toArray, List.set_cons_zero, List.set_cons_succ]
        refine wpAnyH_take (i := 11) (oi := ⟨some 86, _, _, _, _, _⟩) (v := ?_) rfl (by kernel_rfl) (by kernel_rfl) (by kernel_rfl) (fun _ _ _ h => h) (Or.inl ⟨by rfl, ?_⟩) hHeld ?_
        rotate_left
        · intro ww hSw
          try dsimp only at hSw
          go_simp
          try with_reducible rfl
          try omega
        try simp only [Act.put, List.setIfInBounds_toArray, List.set_cons_zero, List.set_cons_succ]
        refine wpAnyH_take (i := 12) (oi := ⟨some 6, _, _, _, _, _⟩) (v := ?_) rfl (by kernel_rfl) (by kernel_rfl) (by kernel_rfl) (fun _ _ _ h => h) (Or.inl ⟨by rfl, ?_⟩) hHeld ?_
        rotate_left
        · intro ww hSw
          try dsimp only at hSw
          go_simp
          try with_reducible rfl
          try omega
        try simp only [Act.put, List.setIfInBounds_toArray, List.set_cons_zero, List.set_cons_succ]
        refine wpAnyH_take (i := 13) (oi := ⟨some 7, _, _, _, _, _⟩) (v := ?_) rfl (by kernel_rfl) (by kernel_rfl) (by kernel_rfl) (fun _ _ _ h => h) (Or.inl ⟨by rfl, ?_⟩) hHeld ?_
        rotate_left
        · intro ww hSw
          try dsimp only at hSw
          go_simp
          try with_reducible rfl
          try omega
        try simp only [Act.put, List.setIfInBounds_toArray, List.set_cons_zero, List.set_cons_succ]
        refine wpAnyH_done (by kernel_rfl) ?_ _
        replace K := hHeld.1
        replace H := hHeld.2.1
        replace O := hHeld.2.2.1
        clear hHeld
        go_wp2
        go_ret
        exact ⟨false, rfl, (fun e => by cases e), K⟩
    · have e1 : decide ((k : Int) < (n0 : Int)) = false := by simp; omega
      have hin : InB a M n0 xs := fun j hj2 => hj.out j (by omega)
      have O_2 := O.at_ (v := .slice A0 n0 c0) 2 rfl
      have O_z := O.lt
      go_wp2
      go_ret
      exact ⟨true, rfl, fun _ => HP.out hin, K⟩
theorem whole_any (hM : Much a p M) (hI : IS .u32 lo w h.A0 h.n0 h.c0 xs) (hxs : ∀ j, j < h.n0 → ∃ x : Nat, gi xs j = (x : Int) ∧ x < 4294967296) :
    Calls Try.prog 11 #[.agg #[.int .u32 a, .int .i64 p, .slice A n c, .int .i64 sh, .int .i64 wo, .int .i64 qu, .int .i64 tr], .agg (opv h s)] w (RetW (WhP a M h s xs) w) := by
  by_cases c0 : s.leaf < 0
  · exact (whole0 hM c0).mono fun _ _ h => h.no
  by_cases c1 : (lv M : Int) ≤ s.leaf
  · exact (whole1 hM c0 c1).mono fun _ _ h => h.no
  by_cases c2 : s.item < 0
  · exact (whole2 hM c0 c1 c2).mono fun _ _ h => h.no
  by_cases c3 : 1000 < s.item
  · exact (whole3 hM c0 c1 c2 c3).mono fun _ _ h => h.no
  by_cases c4 : s.at_ < 0
  · exact (whole4 hM c0 c1 c2 c3 c4).mono fun _ _ h => h.no
  by_cases c5 : 1 < s.at_
  · exact (whole5 hM c0 c1 c2 c3 c4 c5).mono fun _ _ h => h.no
  by_cases c6 : (100 : Int) < (h.n0 : Int)
  · exact (whole6 hM c0 c1 c2 c3 c4 c5 c6).mono fun _ _ h => h.no
  by_cases c7 : (300 : Int) < (h.n3 : Int)
  · exact (whole7 hM c0 c1 c2 c3 c4 c5 c6 c7).mono fun _ _ h => h.no
  by_cases c8 : (300 : Int) < (h.n1 : Int)
  · exact (whole8 hM c0 c1 c2 c3 c4 c5 c6 c7 c8).mono fun _ _ h => h.no
  by_cases c9 : (300 : Int) < (h.n2 : Int)
  · exact (whole9 hM c0 c1 c2 c3 c4 c5 c6 c7 c8 c9).mono fun _ _ h => h.no
  exact whole_all hM hI hxs c0 c1 c2 c3 c4 c5 c6 c7 c8 c9
end
end Go.Proofs.Ytlfdekeahplidaa
