/-
  What the document's Fits and Whole tell: where they answer true, the configuration may be, the cells are as many as there are, and the operation is one of it. Conditions: none but what a law's arguments are.
-/
import Derived.Test.YtafdlofmgefdoaaFnMap
namespace Go.Proofs.Ytafdlofmgefdoaa
open Go.RowKit
set_option linter.unusedVariables false
def RetW (P : Prop) (w : World) (e : Ending) (w' : World) : Prop := ∃ b, e = .returned (.bool b) ∧ (b = true → P) ∧ Below w.heap.size w w'
section
variable {w : World} {lo lo2 a M m d : Nat} {p sh wo qu tr : Int} {A B : Option Addr} {n c : Nat} {zs : List Int} {xs : List Int} {h : Hd} {s : Sc}
theorem fits0 (ha : a < 4294967296) (h0 : IS .i64 lo w A n c zs) (hb : confB a p n zs sh wo qu tr = false) :
    Calls Try.prog 8 #[.agg #[.int .u32 a, .int .i64 p, .slice A n c, .int .i64 sh, .int .i64 wo, .int .i64 qu, .int .i64 tr], .slice B m d] w (RetBo false w) := by
  have hb := Lib.hid hb
  go_enter Try.func8, Try.ntmps8
  go_upto_region 1 with (fail)
  have K := below_alloc w (.cells #[.int .u32 a, .int .i64 p, .slice A n c, .int .i64 sh, .int .i64 wo, .int .i64 qu, .int .i64 tr] 27)
  have H : Bk (World.alloc (w) (.cells #[.int .u32 a, .int .i64 p, .slice A n c, .int .i64 sh, .int .i64 wo, .int .i64 qu, .int .i64 tr] 27)) (World.heap (w)).size 27 (#[.int .u32 a, .int .i64 p, .slice A n c, .int .i64 sh, .int .i64 wo, .int .i64 qu, .int .i64 tr]) := Bk.new _ _ _
  try simp only [World.size_alloc] at H
  generalize (w).alloc (.cells #[.int .u32 a, .int .i64 p, .slice A n c, .int .i64 sh, .int .i64 wo, .int .i64 qu, .int .i64 tr] 27) = w1 at H K ⊢
  obtain ⟨gH, hgH⟩ : ∃ g, g = w.heap.size := ⟨_, rfl⟩
  rw [← hgH] at H ⊢
  have H_b : w.heap.size ≤ gH := by omega
  clear hgH
  go_wp2_with (refine wpList_load_row rfl 27 (.tmp 2) rfl gH rfl _ _ (0, 0) _ H Try.underlying27 rfl cf_sz ?_)
  refine (rmay_is ha (h0.below K) hb.out).mono ?_
  rintro e w2 ⟨rfl, K'⟩
  replace H := H.below K'
  replace K := Below.then_ K K'
  clear K'
  go_wp2
  go_ret
  exact ⟨rfl, K⟩
theorem fits1 (ha : a < 4294967296) (h0 : IS .i64 lo w A n c zs) (hb : confB a p n zs sh wo qu tr = true) (hM : Much a p M) (hm : ¬ M ≤ 4096) :
    Calls Try.prog 8 #[.agg #[.int .u32 a, .int .i64 p, .slice A n c, .int .i64 sh, .int .i64 wo, .int .i64 qu, .int .i64 tr], .slice B m d] w (RetBo false w) := by
  have hb := Lib.hid hb
  have T := fun w => Lib.hid (rcells_any M hM.most w)
  have f1 : decide ((M : Int) ≤ 4096) = false := by simp; omega
  clear hm
  go_enter Try.func8, Try.ntmps8
  go_upto_region 1 with (fail)
  have K := below_alloc w (.cells #[.int .u32 a, .int .i64 p, .slice A n c, .int .i64 sh, .int .i64 wo, .int .i64 qu, .int .i64 tr] 27)
  have H : Bk (World.alloc (w) (.cells #[.int .u32 a, .int .i64 p, .slice A n c, .int .i64 sh, .int .i64 wo, .int .i64 qu, .int .i64 tr] 27)) (World.heap (w)).size 27 (#[.int .u32 a, .int .i64 p, .slice A n c, .int .i64 sh, .int .i64 wo, .int .i64 qu, .int .i64 tr]) := Bk.new _ _ _
  try simp only [World.size_alloc] at H
  generalize (w).alloc (.cells #[.int .u32 a, .int .i64 p, .slice A n c, .int .i64 sh, .int .i64 wo, .int .i64 qu, .int .i64 tr] 27) = w1 at H K ⊢
  obtain ⟨gH, hgH⟩ : ∃ g, g = w.heap.size := ⟨_, rfl⟩
  rw [← hgH] at H ⊢
  have H_b : w.heap.size ≤ gH := by omega
  clear hgH
  go_wp2_with (refine wpList_load_row rfl 27 (.tmp 2) rfl gH rfl _ _ (0, 0) _ H Try.underlying27 rfl cf_sz ?_)
  refine (rmay_is ha (h0.below K) hb.out).mono ?_
  rintro e w2 ⟨rfl, K'⟩
  replace H := H.below K'
  replace K := Below.then_ K K'
  clear K'
  have H_0 := H.at_ (v := .int .u32 a) 0 rfl
  have H_1 := H.at_ (v := .int .i64 p) 1 rfl
  have H_z := H.lt
  go_wp2_with fail
  refine (rmany_yes hM).mono ?_
  rintro e w3 ⟨rfl, K'⟩
  clear H_0 H_1 H_z
  replace H := H.below K'
  replace K := Below.then_ K K'
  clear K'
  go_wp2
  go_ret
  exact ⟨rfl, K⟩
theorem fits2 (ha : a < 4294967296) (h0 : IS .i64 lo w A n c zs) (hb : confB a p n zs sh wo qu tr = true) (hM : Much a p M) (hm : M ≤ 4096) (hc : m ≠ lv M + tv M + 1) :
    Calls Try.prog 8 #[.agg #[.int .u32 a, .int .i64 p, .slice A n c, .int .i64 sh, .int .i64 wo, .int .i64 qu, .int .i64 tr], .slice B m d] w (RetBo false w) := by
  have hb := Lib.hid hb
  have T := fun w => Lib.hid (rcells_any M hM.most w)
  have f1 : decide ((M : Int) ≤ 4096) = true := by simp; omega
  clear hm
  have f2 : ((m : Int) == ((lv M + tv M + 1 : Nat) : Int)) = false := by simp; omega
  clear hc
  generalize hC : lv M + tv M + 1 = C at *
  clear hC
  go_enter Try.func8, Try.ntmps8
  go_upto_region 1 with (fail)
  have K := below_alloc w (.cells #[.int .u32 a, .int .i64 p, .slice A n c, .int .i64 sh, .int .i64 wo, .int .i64 qu, .int .i64 tr] 27)
  have H : Bk (World.alloc (w) (.cells #[.int .u32 a, .int .i64 p, .slice A n c, .int .i64 sh, .int .i64 wo, .int .i64 qu, .int .i64 tr] 27)) (World.heap (w)).size 27 (#[.int .u32 a, .int .i64 p, .slice A n c, .int .i64 sh, .int .i64 wo, .int .i64 qu, .int .i64 tr]) := Bk.new _ _ _
  try simp only [World.size_alloc] at H
  generalize (w).alloc (.cells #[.int .u32 a, .int .i64 p, .slice A n c, .int .i64 sh, .int .i64 wo, .int .i64 qu, .int .i64 tr] 27) = w1 at H K ⊢
  obtain ⟨gH, hgH⟩ : ∃ g, g = w.heap.size := ⟨_, rfl⟩
  rw [← hgH] at H ⊢
  have H_b : w.heap.size ≤ gH := by omega
  clear hgH
  go_wp2_with (refine wpList_load_row rfl 27 (.tmp 2) rfl gH rfl _ _ (0, 0) _ H Try.underlying27 rfl cf_sz ?_)
  refine (rmay_is ha (h0.below K) hb.out).mono ?_
  rintro e w2 ⟨rfl, K'⟩
  replace H := H.below K'
  replace K := Below.then_ K K'
  clear K'
  have H_0 := H.at_ (v := .int .u32 a) 0 rfl
  have H_1 := H.at_ (v := .int .i64 p) 1 rfl
  have H_z := H.lt
  go_wp2_with fail
  refine (rmany_yes hM).mono ?_
  rintro e w3 ⟨rfl, K'⟩
  clear H_0 H_1 H_z
  replace H := H.below K'
  replace K := Below.then_ K K'
  clear K'
  have H_0 := H.at_ (v := .int .u32 a) 0 rfl
  have H_1 := H.at_ (v := .int .i64 p) 1 rfl
  have H_z := H.lt
  go_wp2_with fail
  refine (rmany_yes hM).mono ?_
  rintro e w4 ⟨rfl, K'⟩
  clear H_0 H_1 H_z
  replace H := H.below K'
  replace K := Below.then_ K K'
  clear K'
  go_wp2_with ((with_reducible refine ((T _).out).mono ?_); rintro e w' ⟨rfl, rfl⟩)
  go_ret
  exact ⟨rfl, K⟩
theorem fits3 (ha : a < 4294967296) (h0 : IS .i64 lo w A n c zs) (hb : confB a p n zs sh wo qu tr = true) (hM : Much a p M) (hm : M ≤ 4096) (hc : m = lv M + tv M + 1) :
    Calls Try.prog 8 #[.agg #[.int .u32 a, .int .i64 p, .slice A n c, .int .i64 sh, .int .i64 wo, .int .i64 qu, .int .i64 tr], .slice B m d] w (RetBo true w) := by
  have hb := Lib.hid hb
  have T := fun w => Lib.hid (rcells_any M hM.most w)
  have f1 : decide ((M : Int) ≤ 4096) = true := by simp; omega
  clear hm
  have f2 : ((m : Int) == ((lv M + tv M + 1 : Nat) : Int)) = true := by simp; omega
  clear hc
  generalize hC : lv M + tv M + 1 = C at *
  clear hC
  go_enter Try.func8, Try.ntmps8
  go_upto_region 1 with (fail)
  have K := below_alloc w (.cells #[.int .u32 a, .int .i64 p, .slice A n c, .int .i64 sh, .int .i64 wo, .int .i64 qu, .int .i64 tr] 27)
  have H : Bk (World.alloc (w) (.cells #[.int .u32 a, .int .i64 p, .slice A n c, .int .i64 sh, .int .i64 wo, .int .i64 qu, .int .i64 tr] 27)) (World.heap (w)).size 27 (#[.int .u32 a, .int .i64 p, .slice A n c, .int .i64 sh, .int .i64 wo, .int .i64 qu, .int .i64 tr]) := Bk.new _ _ _
  try simp only [World.size_alloc] at H
  generalize (w).alloc (.cells #[.int .u32 a, .int .i64 p, .slice A n c, .int .i64 sh, .int .i64 wo, .int .i64 qu, .int .i64 tr] 27) = w1 at H K ⊢
  obtain ⟨gH, hgH⟩ : ∃ g, g = w.heap.size := ⟨_, rfl⟩
  rw [← hgH] at H ⊢
  have H_b : w.heap.size ≤ gH := by omega
  clear hgH
  go_wp2_with (refine wpList_load_row rfl 27 (.tmp 2) rfl gH rfl _ _ (0, 0) _ H Try.underlying27 rfl cf_sz ?_)
  refine (rmay_is ha (h0.below K) hb.out).mono ?_
  rintro e w2 ⟨rfl, K'⟩
  replace H := H.below K'
  replace K := Below.then_ K K'
  clear K'
  have H_0 := H.at_ (v := .int .u32 a) 0 rfl
  have H_1 := H.at_ (v := .int .i64 p) 1 rfl
  have H_z := H.lt
  go_wp2_with fail
  refine (rmany_yes hM).mono ?_
  rintro e w3 ⟨rfl, K'⟩
  clear H_0 H_1 H_z
  replace H := H.below K'
  replace K := Below.then_ K K'
  clear K'
  have H_0 := H.at_ (v := .int .u32 a) 0 rfl
  have H_1 := H.at_ (v := .int .i64 p) 1 rfl
  have H_z := H.lt
  go_wp2_with fail
  refine (rmany_yes hM).mono ?_
  rintro e w4 ⟨rfl, K'⟩
  clear H_0 H_1 H_z
  replace H := H.below K'
  replace K := Below.then_ K K'
  clear K'
  go_wp2_with ((with_reducible refine ((T _).out).mono ?_); rintro e w' ⟨rfl, rfl⟩)
  go_ret
  exact ⟨rfl, K⟩
/-- What Fits tells. -/
def FitP (a : Nat) (p : Int) (m : Nat) : Prop := Much a p (2 ^ (32 - p.toNat)) ∧ 2 ^ (32 - p.toNat) ≤ 4096 ∧ m = lv (2 ^ (32 - p.toNat)) + tv (2 ^ (32 - p.toNat)) + 1
theorem RetBo.no {P : Prop} {w w' : World} {e : Ending} (h : RetBo false w e w') : RetW P w e w' := ⟨false, h.1, (fun e => by cases e), h.2⟩
theorem RetBo.yes {P : Prop} {w w' : World} {e : Ending} (h : RetBo true w e w') (hp : P) : RetW P w e w' := ⟨true, h.1, fun _ => hp, h.2⟩
theorem fits_any (ha : a < 4294967296) (h0 : IS .i64 lo w A n c zs) :
    Calls Try.prog 8 #[.agg #[.int .u32 a, .int .i64 p, .slice A n c, .int .i64 sh, .int .i64 wo, .int .i64 qu, .int .i64 tr], .slice B m d] w (RetW (FitP a p m) w) := by
  cases hb : confB a p n zs sh wo qu tr with
  | false => exact (fits0 ha h0 hb).mono fun _ _ h => h.no
  | true =>
    have hM := Much.of (confB_no hb).1
    by_cases hm : 2 ^ (32 - p.toNat) ≤ 4096
    · by_cases hc : m = lv (2 ^ (32 - p.toNat)) + tv (2 ^ (32 - p.toNat)) + 1
      · exact (fits3 ha h0 hb hM hm hc).mono fun _ _ h => h.yes ⟨hM, hm, hc⟩
      · exact (fits2 ha h0 hb hM hm hc).mono fun _ _ h => h.no
    · exact (fits1 ha h0 hb hM hm).mono fun _ _ h => h.no
/-- What Whole tells. -/
def WhP (a M : Nat) (h : Hd) (s : Sc) (xs : List Int) : Prop := (0 ≤ s.leaf ∧ s.leaf < (lv M : Int)) ∧ (0 ≤ s.item ∧ s.item ≤ 1000) ∧ (0 ≤ s.at_ ∧ s.at_ ≤ 1) ∧ (h.n0 ≤ 100 ∧ h.n1 ≤ 300 ∧ h.n2 ≤ 300 ∧ h.n3 ≤ 300) ∧ InB a M h.n0 xs
set_option maxRecDepth 100000 in
set_option maxHeartbeats 2000000 in
theorem whole_neg (hM : Much a p M) (hng : s.leaf < 0) :
    Calls Try.prog 34 #[.agg #[.int .u32 (a : Int), .int .i64 p, .slice A n c, .int .i64 sh, .int .i64 wo, .int .i64 qu, .int .i64 tr], .agg (opv h s)] w (RetW (WhP a M h s xs) w) := by
  have f0 : decide (s.leaf < 0) = true := by simpa using hng
  clear hng
  rcases s with ⟨kind, addr, err, aad, used, phase, shard, sought, leaf, bit, word, full, at_, tries, item, stamp⟩
  rcases h with ⟨A0, n0, c0, A1, n1, c1, A2, n2, c2, A3, n3, c3⟩
  try dsimp only at *
  go_enter Try.func34, Try.ntmps34
  go_upto_region 1 with (fail)
  have L := Loc.start w
  replace L := ((L).alloc #[.int .u32 (a : Int), .int .i64 p, .slice A n c, .int .i64 sh, .int .i64 wo, .int .i64 qu, .int .i64 tr] 27).alloc (opv ⟨A0, n0, c0, A1, n1, c1, A2, n2, c2, A3, n3, c3⟩ ⟨kind, addr, err, aad, used, phase, shard, sought, leaf, bit, word, full, at_, tries, item, stamp⟩) 42
  try simp only [World.size_alloc] at L
  try dsimp only [nput] at L
  generalize ((w).alloc (.cells #[.int .u32 (a : Int), .int .i64 p, .slice A n c, .int .i64 sh, .int .i64 wo, .int .i64 qu, .int .i64 tr] 27)).alloc (.cells (opv ⟨A0, n0, c0, A1, n1, c1, A2, n2, c2, A3, n3, c3⟩ ⟨kind, addr, err, aad, used, phase, shard, sought, leaf, bit, word, full, at_, tries, item, stamp⟩) 42) = w1 at L ⊢
  generalize w.heap.size + 1 = gO at L ⊢
  generalize w.heap.size = gH at L ⊢
  replace L := L.drew
  refine wp_region_held_drew (S := fun w' => Loc w w' [(gO, 42, opv ⟨A0, n0, c0, A1, n1, c1, A2, n2, c2, A3, n3, c3⟩ ⟨kind, addr, err, aad, used, phase, shard, sought, leaf, bit, word, full, at_, tries, item, stamp⟩), (gH, 27, #[.int .u32 (a : Int), .int .i64 p, .slice A n c, .int .i64 sh, .int .i64 wo, .int .i64 qu, .int .i64 tr])] []) (by kernel_rfl) L (fun hHeld => ?_)
  generalize w1.drew = v2 at hHeld L ⊢
  refine wpAnyH_take (i := 0) (oi := ⟨some 8, _, _, _, _, _⟩) (v := .pointer (some ⟨gO, 11, none⟩)) rfl (by kernel_rfl) (by kernel_rfl) (by kernel_rfl) (fun _ _ _ h => h) (Or.inl ⟨by rfl, ?_⟩) hHeld ?_
  · intro ww hS
    try dsimp only at hS
    go_simp
    try with_reducible rfl
    try omega
  try simp only [Act.put, List.setIfInBounds_toArray, List.set_cons_zero, List.set_cons_succ]
  refine wpAnyH_take (i := 1) (oi := ⟨some 9, _, _, _, _, _⟩) (v := .int .i64 leaf) rfl (by kernel_rfl) (by kernel_rfl) (by kernel_rfl) (fun _ _ _ h => h) (Or.inl ⟨by rfl, ?_⟩) hHeld ?_
  · intro ww hS
    try dsimp only at hS
    have O_11 := (hS).at_ 0 11 rfl (v := .int .i64 leaf) rfl
    have O_z := (hS).lt 0 rfl
    go_simp
    try with_reducible rfl
    try omega
  try simp only [Act.put, List.setIfInBounds_toArray, List.set_cons_zero, List.set_cons_succ]
  refine wpAnyH_take (i := 2) (oi := ⟨some 10, _, _, _, _, _⟩) (v := .bool true) rfl (by kernel_rfl) (by kernel_rfl) (by kernel_rfl) (fun _ _ _ h => h) (Or.inl ⟨by rfl, ?_⟩) hHeld ?_
  · intro ww hS
    try dsimp only at hS
    go_simp
    try with_reducible rfl
    try omega
  try simp only [Act.put, List.setIfInBounds_toArray, List.set_cons_zero, List.set_cons_succ]
  refine wpAnyH_take (i := 3) (oi := ⟨some 11, _, _, _, _, _⟩) (v := .bool true) rfl (by kernel_rfl) (by kernel_rfl) (by kernel_rfl) (fun _ _ _ h => h) (Or.inl ⟨by rfl, ?_⟩) hHeld ?_
  · intro ww hS
    try dsimp only at hS
    go_simp
    try with_reducible rfl
    try omega
  try simp only [Act.put, List.setIfInBounds_toArray, List.set_cons_zero, List.set_cons_succ]
  refine wpAnyH_take (i := 4) (oi := ⟨some 12, _, _, _, _, _⟩) (v := undef) rfl (by kernel_rfl) (by kernel_rfl) (by kernel_rfl) (fun _ _ _ h => h) (Or.inr ⟨by rfl, rfl⟩) hHeld ?_
  try simp only [Act.put, List.setIfInBounds_toArray, List.set_cons_zero, List.set_cons_succ]
  refine wpAnyH_take (i := 5) (oi := ⟨some 13, _, _, _, _, _⟩) (v := undef) rfl (by kernel_rfl) (by kernel_rfl) (by kernel_rfl) (fun _ _ _ h => h) (Or.inr ⟨by rfl, rfl⟩) hHeld ?_
  try simp only [Act.put, List.setIfInBounds_toArray, List.set_cons_zero, List.set_cons_succ]
  refine wpAnyH_take (i := 6) (oi := ⟨some 14, _, _, _, _, _⟩) (v := undef) rfl (by kernel_rfl) (by kernel_rfl) (by kernel_rfl) (fun _ _ _ h => h) (Or.inr ⟨by rfl, rfl⟩) hHeld ?_
  try simp only [Act.put, List.setIfInBounds_toArray, List.set_cons_zero, List.set_cons_succ]
  refine wpAnyH_take (i := 7) (oi := ⟨some 15, _, _, _, _, _⟩) (v := undef) rfl (by kernel_rfl) (by kernel_rfl) (by kernel_rfl) (fun _ _ _ h => h) (Or.inr ⟨by rfl, rfl⟩) hHeld ?_
  try simp only [Act.put, List.setIfInBounds_toArray, List.set_cons_zero, List.set_cons_succ]
  refine wpAnyH_take (i := 8) (oi := ⟨some 16, _, _, _, _, _⟩) (v := undef) rfl (by kernel_rfl) (by kernel_rfl) (by kernel_rfl) (fun _ _ _ h => h) (Or.inr ⟨by rfl, rfl⟩) hHeld ?_
  try simp only [Act.put, List.setIfInBounds_toArray, List.set_cons_zero, List.set_cons_succ]
  refine wpAnyH_take (i := 9) (oi := ⟨some 17, _, _, _, _, _⟩) (v := undef) rfl (by kernel_rfl) (by kernel_rfl) (by kernel_rfl) (fun _ _ _ h => h) (Or.inr ⟨by rfl, rfl⟩) hHeld ?_
  try simp only [Act.put, List.setIfInBounds_toArray, List.set_cons_zero, List.set_cons_succ]
  refine wpAnyH_take (i := 10) (oi := ⟨some 18, _, _, _, _, _⟩) (v := undef) rfl (by kernel_rfl) (by kernel_rfl) (by kernel_rfl) (fun _ _ _ h => h) (Or.inr ⟨by rfl, rfl⟩) hHeld ?_
  try simp only [Act.put, List.setIfInBounds_toArray, List.set_cons_zero, List.set_cons_succ]
  refine wpAnyH_take (i := 11) (oi := ⟨some 19, _, _, _, _, _⟩) (v := .bool true) rfl (by kernel_rfl) (by kernel_rfl) (by kernel_rfl) (fun _ _ _ h => h) (Or.inl ⟨by rfl, ?_⟩) hHeld ?_
  · intro ww hS
    try dsimp only at hS
    go_simp
    try with_reducible rfl
    try omega
  try simp only [Act.put, List.setIfInBounds_toArray, List.set_cons_zero, List.set_cons_succ]
  refine wpAnyH_take (i := 12) (oi := ⟨some 20, _, _, _, _, _⟩) (v := .bool true) rfl (by kernel_rfl) (by kernel_rfl) (by kernel_rfl) (fun _ _ _ h => h) (Or.inl ⟨by rfl, ?_⟩) hHeld ?_
  · intro ww hS
    try dsimp only at hS
    go_simp
    try with_reducible rfl
    try omega
  try simp only [Act.put, List.setIfInBounds_toArray, List.set_cons_zero, List.set_cons_succ]
  refine wpAnyH_take (i := 13) (oi := ⟨some 21, _, _, _, _, _⟩) (v := undef) rfl (by kernel_rfl) (by kernel_rfl) (by kernel_rfl) (fun _ _ _ h => h) (Or.inr ⟨by rfl, rfl⟩) hHeld ?_
  try simp only [Act.put, List.setIfInBounds_toArray, List.set_cons_zero, List.set_cons_succ]
  refine wpAnyH_take (i := 14) (oi := ⟨some 22, _, _, _, _, _⟩) (v := undef) rfl (by kernel_rfl) (by kernel_rfl) (by kernel_rfl) (fun _ _ _ h => h) (Or.inr ⟨by rfl, rfl⟩) hHeld ?_
  try simp only [Act.put, List.setIfInBounds_toArray, List.set_cons_zero, List.set_cons_succ]
  refine wpAnyH_take (i := 15) (oi := ⟨some 23, _, _, _, _, _⟩) (v := undef) rfl (by kernel_rfl) (by kernel_rfl) (by kernel_rfl) (fun _ _ _ h => h) (Or.inr ⟨by rfl, rfl⟩) hHeld ?_
  try simp only [Act.put, List.setIfInBounds_toArray, List.set_cons_zero, List.set_cons_succ]
  refine wpAnyH_take (i := 16) (oi := ⟨some 24, _, _, _, _, _⟩) (v := .bool true) rfl (by kernel_rfl) (by kernel_rfl) (by kernel_rfl) (fun _ _ _ h => h) (Or.inl ⟨by rfl, ?_⟩) hHeld ?_
  · intro ww hS
    try dsimp only at hS
    go_simp
    try with_reducible rfl
    try omega
  try simp only [Act.put, List.setIfInBounds_toArray, List.set_cons_zero, List.set_cons_succ]
  refine wpAnyH_take (i := 17) (oi := ⟨some 25, _, _, _, _, _⟩) (v := .bool true) rfl (by kernel_rfl) (by kernel_rfl) (by kernel_rfl) (fun _ _ _ h => h) (Or.inl ⟨by rfl, ?_⟩) hHeld ?_
  · intro ww hS
    try dsimp only at hS
    go_simp
    try with_reducible rfl
    try omega
  try simp only [Act.put, List.setIfInBounds_toArray, List.set_cons_zero, List.set_cons_succ]
  refine wpAnyH_take (i := 18) (oi := ⟨some 26, _, _, _, _, _⟩) (v := undef) rfl (by kernel_rfl) (by kernel_rfl) (by kernel_rfl) (fun _ _ _ h => h) (Or.inr ⟨by rfl, rfl⟩) hHeld ?_
  try simp only [Act.put, List.setIfInBounds_toArray, List.set_cons_zero, List.set_cons_succ]
  refine wpAnyH_take (i := 19) (oi := ⟨some 27, _, _, _, _, _⟩) (v := undef) rfl (by kernel_rfl) (by kernel_rfl) (by kernel_rfl) (fun _ _ _ h => h) (Or.inr ⟨by rfl, rfl⟩) hHeld ?_
  try simp only [Act.put, List.setIfInBounds_toArray, List.set_cons_zero, List.set_cons_succ]
  refine wpAnyH_take (i := 20) (oi := ⟨some 28, _, _, _, _, _⟩) (v := undef) rfl (by kernel_rfl) (by kernel_rfl) (by kernel_rfl) (fun _ _ _ h => h) (Or.inr ⟨by rfl, rfl⟩) hHeld ?_
  try simp only [Act.put, List.setIfInBounds_toArray, List.set_cons_zero, List.set_cons_succ]
  refine wpAnyH_take (i := 21) (oi := ⟨some 29, _, _, _, _, _⟩) (v := .bool true) rfl (by kernel_rfl) (by kernel_rfl) (by kernel_rfl) (fun _ _ _ h => h) (Or.inl ⟨by rfl, ?_⟩) hHeld ?_
  · intro ww hS
    try dsimp only at hS
    go_simp
    try with_reducible rfl
    try omega
  try simp only [Act.put, List.setIfInBounds_toArray, List.set_cons_zero, List.set_cons_succ]
  refine wpAnyH_take (i := 22) (oi := ⟨some 30, _, _, _, _, _⟩) (v := .bool true) rfl (by kernel_rfl) (by kernel_rfl) (by kernel_rfl) (fun _ _ _ h => h) (Or.inl ⟨by rfl, ?_⟩) hHeld ?_
  · intro ww hS
    try dsimp only at hS
    go_simp
    try with_reducible rfl
    try omega
  try simp only [Act.put, List.setIfInBounds_toArray, List.set_cons_zero, List.set_cons_succ]
  refine wpAnyH_take (i := 23) (oi := ⟨some 31, _, _, _, _, _⟩) (v := undef) rfl (by kernel_rfl) (by kernel_rfl) (by kernel_rfl) (fun _ _ _ h => h) (Or.inr ⟨by rfl, rfl⟩) hHeld ?_
  try simp only [Act.put, List.setIfInBounds_toArray, List.set_cons_zero, List.set_cons_succ]
  refine wpAnyH_take (i := 24) (oi := ⟨some 32, _, _, _, _, _⟩) (v := undef) rfl (by kernel_rfl) (by kernel_rfl) (by kernel_rfl) (fun _ _ _ h => h) (Or.inr ⟨by rfl, rfl⟩) hHeld ?_
  try simp only [Act.put, List.setIfInBounds_toArray, List.set_cons_zero, List.set_cons_succ]
  refine wpAnyH_take (i := 25) (oi := ⟨some 33, _, _, _, _, _⟩) (v := undef) rfl (by kernel_rfl) (by kernel_rfl) (by kernel_rfl) (fun _ _ _ h => h) (Or.inr ⟨by rfl, rfl⟩) hHeld ?_
  try simp only [Act.put, List.setIfInBounds_toArray, List.set_cons_zero, List.set_cons_succ]
  refine wpAnyH_take (i := 26) (oi := ⟨some 34, _, _, _, _, _⟩) (v := .bool true) rfl (by kernel_rfl) (by kernel_rfl) (by kernel_rfl) (fun _ _ _ h => h) (Or.inl ⟨by rfl, ?_⟩) hHeld ?_
  · intro ww hS
    try dsimp only at hS
    go_simp
    try with_reducible rfl
    try omega
  try simp only [Act.put, List.setIfInBounds_toArray, List.set_cons_zero, List.set_cons_succ]
  refine wpAnyH_take (i := 27) (oi := ⟨some 35, _, _, _, _, _⟩) (v := .bool true) rfl (by kernel_rfl) (by kernel_rfl) (by kernel_rfl) (fun _ _ _ h => h) (Or.inl ⟨by rfl, ?_⟩) hHeld ?_
  · intro ww hS
    try dsimp only at hS
    go_simp
    try with_reducible rfl
    try omega
  try simp only [Act.put, List.setIfInBounds_toArray, List.set_cons_zero, List.set_cons_succ]
  refine wpAnyH_take (i := 28) (oi := ⟨some 36, _, _, _, _, _⟩) (v := undef) rfl (by kernel_rfl) (by kernel_rfl) (by kernel_rfl) (fun _ _ _ h => h) (Or.inr ⟨by rfl, rfl⟩) hHeld ?_
  try simp only [Act.put, List.setIfInBounds_toArray, List.set_cons_zero, List.set_cons_succ]
  refine wpAnyH_take (i := 29) (oi := ⟨some 37, _, _, _, _, _⟩) (v := undef) rfl (by kernel_rfl) (by kernel_rfl) (by kernel_rfl) (fun _ _ _ h => h) (Or.inr ⟨by rfl, rfl⟩) hHeld ?_
  try simp only [Act.put, List.setIfInBounds_toArray, List.set_cons_zero, List.set_cons_succ]
  refine wpAnyH_take (i := 30) (oi := ⟨some 38, _, _, _, _, _⟩) (v := undef) rfl (by kernel_rfl) (by kernel_rfl) (by kernel_rfl) (fun _ _ _ h => h) (Or.inr ⟨by rfl, rfl⟩) hHeld ?_
  try simp only [Act.put, List.setIfInBounds_toArray, List.set_cons_zero, List.set_cons_succ]
  refine wpAnyH_take (i := 31) (oi := ⟨some 39, _, _, _, _, _⟩) (v := .bool true) rfl (by kernel_rfl) (by kernel_rfl) (by kernel_rfl) (fun _ _ _ h => h) (Or.inl ⟨by rfl, ?_⟩) hHeld ?_
  · intro ww hS
    try dsimp only at hS
    go_simp
    try with_reducible rfl
    try omega
  try simp only [Act.put, List.setIfInBounds_toArray, List.set_cons_zero, List.set_cons_succ]
  refine wpAnyH_take (i := 32) (oi := ⟨some 40, _, _, _, _, _⟩) (v := .bool true) rfl (by kernel_rfl) (by kernel_rfl) (by kernel_rfl) (fun _ _ _ h => h) (Or.inl ⟨by rfl, ?_⟩) hHeld ?_
  · intro ww hS
    try dsimp only at hS
    go_simp
    try with_reducible rfl
    try omega
  try simp only [Act.put, List.setIfInBounds_toArray, List.set_cons_zero, List.set_cons_succ]
  refine wpAnyH_take (i := 33) (oi := ⟨some 41, _, _, _, _, _⟩) (v := undef) rfl (by kernel_rfl) (by kernel_rfl) (by kernel_rfl) (fun _ _ _ h => h) (Or.inr ⟨by rfl, rfl⟩) hHeld ?_
  try simp only [Act.put, List.setIfInBounds_toArray, List.set_cons_zero, List.set_cons_succ]
  refine wpAnyH_take (i := 34) (oi := ⟨some 42, _, _, _, _, _⟩) (v := undef) rfl (by kernel_rfl) (by kernel_rfl) (by kernel_rfl) (fun _ _ _ h => h) (Or.inr ⟨by rfl, rfl⟩) hHeld ?_
  try simp only [Act.put, List.setIfInBounds_toArray, List.set_cons_zero, List.set_cons_succ]
  refine wpAnyH_take (i := 35) (oi := ⟨some 43, _, _, _, _, _⟩) (v := undef) rfl (by kernel_rfl) (by kernel_rfl) (by kernel_rfl) (fun _ _ _ h => h) (Or.inr ⟨by rfl, rfl⟩) hHeld ?_
  try simp only [Act.put, List.setIfInBounds_toArray, List.set_cons_zero, List.set_cons_succ]
  refine wpAnyH_take (i := 36) (oi := ⟨some 44, _, _, _, _, _⟩) (v := undef) rfl (by kernel_rfl) (by kernel_rfl) (by kernel_rfl) (fun _ _ _ h => h) (Or.inr ⟨by rfl, rfl⟩) hHeld ?_
  try simp only [Act.put, List.setIfInBounds_toArray, List.set_cons_zero, List.set_cons_succ]
  refine wpAnyH_take (i := 37) (oi := ⟨some 45, _, _, _, _, _⟩) (v := undef) rfl (by kernel_rfl) (by kernel_rfl) (by kernel_rfl) (fun _ _ _ h => h) (Or.inr ⟨by rfl, rfl⟩) hHeld ?_
  try simp only [Act.put, List.setIfInBounds_toArray, List.set_cons_zero, List.set_cons_succ]
  refine wpAnyH_take (i := 38) (oi := ⟨some 46, _, _, _, _, _⟩) (v := .bool true) rfl (by kernel_rfl) (by kernel_rfl) (by kernel_rfl) (fun _ _ _ h => h) (Or.inl ⟨by rfl, ?_⟩) hHeld ?_
  · intro ww hS
    try dsimp only at hS
    go_simp
    try with_reducible rfl
    try omega
  try simp only [Act.put, List.setIfInBounds_toArray, List.set_cons_zero, List.set_cons_succ]
  refine wpAnyH_take (i := 39) (oi := ⟨some 47, _, _, _, _, _⟩) (v := .bool true) rfl (by kernel_rfl) (by kernel_rfl) (by kernel_rfl) (fun _ _ _ h => h) (Or.inl ⟨by rfl, ?_⟩) hHeld ?_
  · intro ww hS
    try dsimp only at hS
    go_simp
    try with_reducible rfl
    try omega
  try simp only [Act.put, List.setIfInBounds_toArray, List.set_cons_zero, List.set_cons_succ]
  refine wpAnyH_take (i := 40) (oi := ⟨some 48, _, _, _, _, _⟩) (v := undef) rfl (by kernel_rfl) (by kernel_rfl) (by kernel_rfl) (fun _ _ _ h => h) (Or.inr ⟨by rfl, rfl⟩) hHeld ?_
  try simp only [Act.put, List.setIfInBounds_toArray, List.set_cons_zero, List.set_cons_succ]
  refine wpAnyH_take (i := 41) (oi := ⟨some 49, _, _, _, _, _⟩) (v := undef) rfl (by kernel_rfl) (by kernel_rfl) (by kernel_rfl) (fun _ _ _ h => h) (Or.inr ⟨by rfl, rfl⟩) hHeld ?_
  try simp only [Act.put, List.setIfInBounds_toArray, List.set_cons_zero, List.set_cons_succ]
  refine wpAnyH_take (i := 42) (oi := ⟨some 50, _, _, _, _, _⟩) (v := undef) rfl (by kernel_rfl) (by kernel_rfl) (by kernel_rfl) (fun _ _ _ h => h) (Or.inr ⟨by rfl, rfl⟩) hHeld ?_
  try simp only [Act.put, List.setIfInBounds_toArray, List.set_cons_zero, List.set_cons_succ]
  refine wpAnyH_take (i := 43) (oi := ⟨some 51, _, _, _, _, _⟩) (v := undef) rfl (by kernel_rfl) (by kernel_rfl) (by kernel_rfl) (fun _ _ _ h => h) (Or.inr ⟨by rfl, rfl⟩) hHeld ?_
  try simp only [Act.put, List.setIfInBounds_toArray, List.set_cons_zero, List.set_cons_succ]
  refine wpAnyH_take (i := 44) (oi := ⟨some 52, _, _, _, _, _⟩) (v := .bool true) rfl (by kernel_rfl) (by kernel_rfl) (by kernel_rfl) (fun _ _ _ h => h) (Or.inl ⟨by rfl, ?_⟩) hHeld ?_
  · intro ww hS
    try dsimp only at hS
    go_simp
    try with_reducible rfl
    try omega
  try simp only [Act.put, List.setIfInBounds_toArray, List.set_cons_zero, List.set_cons_succ]
  refine wpAnyH_take (i := 45) (oi := ⟨some 53, _, _, _, _, _⟩) (v := .bool true) rfl (by kernel_rfl) (by kernel_rfl) (by kernel_rfl) (fun _ _ _ h => h) (Or.inl ⟨by rfl, ?_⟩) hHeld ?_
  · intro ww hS
    try dsimp only at hS
    go_simp
    try with_reducible rfl
    try omega
  try simp only [Act.put, List.setIfInBounds_toArray, List.set_cons_zero, List.set_cons_succ]
  refine wpAnyH_take (i := 46) (oi := ⟨some 54, _, _, _, _, _⟩) (v := undef) rfl (by kernel_rfl) (by kernel_rfl) (by kernel_rfl) (fun _ _ _ h => h) (Or.inr ⟨by rfl, rfl⟩) hHeld ?_
  try simp only [Act.put, List.setIfInBounds_toArray, List.set_cons_zero, List.set_cons_succ]
  refine wpAnyH_take (i := 47) (oi := ⟨some 55, _, _, _, _, _⟩) (v := undef) rfl (by kernel_rfl) (by kernel_rfl) (by kernel_rfl) (fun _ _ _ h => h) (Or.inr ⟨by rfl, rfl⟩) hHeld ?_
  try simp only [Act.put, List.setIfInBounds_toArray, List.set_cons_zero, List.set_cons_succ]
  refine wpAnyH_take (i := 48) (oi := ⟨some 56, _, _, _, _, _⟩) (v := undef) rfl (by kernel_rfl) (by kernel_rfl) (by kernel_rfl) (fun _ _ _ h => h) (Or.inr ⟨by rfl, rfl⟩) hHeld ?_
  try simp only [Act.put, List.setIfInBounds_toArray, List.set_cons_zero, List.set_cons_succ]
  refine wpAnyH_take (i := 49) (oi := ⟨some 57, _, _, _, _, _⟩) (v := undef) rfl (by kernel_rfl) (by kernel_rfl) (by kernel_rfl) (fun _ _ _ h => h) (Or.inr ⟨by rfl, rfl⟩) hHeld ?_
  try simp only [Act.put, List.setIfInBounds_toArray, List.set_cons_zero, List.set_cons_succ]
  refine wpAnyH_take (i := 50) (oi := ⟨some 58, _, _, _, _, _⟩) (v := undef) rfl (by kernel_rfl) (by kernel_rfl) (by kernel_rfl) (fun _ _ _ h => h) (Or.inr ⟨by rfl, rfl⟩) hHeld ?_
  try simp only [Act.put, List.setIfInBounds_toArray, List.set_cons_zero, List.set_cons_succ]
  refine wpAnyH_take (i := 51) (oi := ⟨some 59, _, _, _, _, _⟩) (v := .bool true) rfl (by kernel_rfl) (by kernel_rfl) (by kernel_rfl) (fun _ _ _ h => h) (Or.inl ⟨by rfl, ?_⟩) hHeld ?_
  · intro ww hS
    try dsimp only at hS
    go_simp
    try with_reducible rfl
    try omega
  try simp only [Act.put, List.setIfInBounds_toArray, List.set_cons_zero, List.set_cons_succ]
  refine wpAnyH_take (i := 52) (oi := ⟨some 60, _, _, _, _, _⟩) (v := .bool true) rfl (by kernel_rfl) (by kernel_rfl) (by kernel_rfl) (fun _ _ _ h => h) (Or.inl ⟨by rfl, ?_⟩) hHeld ?_
  · intro ww hS
    try dsimp only at hS
    go_simp
    try with_reducible rfl
    try omega
  try simp only [Act.put, List.setIfInBounds_toArray, List.set_cons_zero, List.set_cons_succ]
  refine wpAnyH_take (i := 53) (oi := ⟨some 61, _, _, _, _, _⟩) (v := undef) rfl (by kernel_rfl) (by kernel_rfl) (by kernel_rfl) (fun _ _ _ h => h) (Or.inr ⟨by rfl, rfl⟩) hHeld ?_
  try simp only [Act.put, List.setIfInBounds_toArray, List.set_cons_zero, List.set_cons_succ]
  refine wpAnyH_take (i := 54) (oi := ⟨some 62, _, _, _, _, _⟩) (v := undef) rfl (by kernel_rfl) (by kernel_rfl) (by kernel_rfl) (fun _ _ _ h => h) (Or.inr ⟨by rfl, rfl⟩) hHeld ?_
  try simp only [Act.put, List.setIfInBounds_toArray, List.set_cons_zero, List.set_cons_succ]
  refine wpAnyH_take (i := 55) (oi := ⟨some 63, _, _, _, _, _⟩) (v := undef) rfl (by kernel_rfl) (by kernel_rfl) (by kernel_rfl) (fun _ _ _ h => h) (Or.inr ⟨by rfl, rfl⟩) hHeld ?_
  try simp only [Act.put, List.setIfInBounds_toArray, List.set_cons_zero, List.set_cons_succ]
  refine wpAnyH_take (i := 56) (oi := ⟨some 64, _, _, _, _, _⟩) (v := undef) rfl (by kernel_rfl) (by kernel_rfl) (by kernel_rfl) (fun _ _ _ h => h) (Or.inr ⟨by rfl, rfl⟩) hHeld ?_
  try simp only [Act.put, List.setIfInBounds_toArray, List.set_cons_zero, List.set_cons_succ]
  refine wpAnyH_take (i := 57) (oi := ⟨some 65, _, _, _, _, _⟩) (v := undef) rfl (by kernel_rfl) (by kernel_rfl) (by kernel_rfl) (fun _ _ _ h => h) (Or.inr ⟨by rfl, rfl⟩) hHeld ?_
  try simp only [Act.put, List.setIfInBounds_toArray, List.set_cons_zero, List.set_cons_succ]
  refine wpAnyH_take (i := 58) (oi := ⟨some 66, _, _, _, _, _⟩) (v := .bool true) rfl (by kernel_rfl) (by kernel_rfl) (by kernel_rfl) (fun _ _ _ h => h) (Or.inl ⟨by rfl, ?_⟩) hHeld ?_
  · intro ww hS
    try dsimp only at hS
    go_simp
    try with_reducible rfl
    try omega
  try simp only [Act.put, List.setIfInBounds_toArray, List.set_cons_zero, List.set_cons_succ]
  refine wpAnyH_done (by kernel_rfl) ?_ _
  clear hHeld
  go_wp2
  go_ret
  exact ⟨false, rfl, (fun e => by cases e), L.K⟩
theorem ofE_zero {a M x : Nat} (h : ofE a M x = 0) : a ≤ x ∧ x < a + M := by
  unfold ofE at h
  by_cases h1 : a ≤ x ∧ x < a + M
  · exact h1
  · rw [if_neg h1] at h; cases h
set_option maxRecDepth 100000 in
set_option maxHeartbeats 2000000 in
theorem whole_pos (hM : Much a p M) (hI : IS .u32 lo w h.A0 h.n0 h.c0 xs) (hxs : ∀ j, j < h.n0 → ∃ x : Nat, gi xs j = (x : Int) ∧ x < 4294967296) (hng : ¬ s.leaf < 0) :
    Calls Try.prog 34 #[.agg #[.int .u32 (a : Int), .int .i64 p, .slice A n c, .int .i64 sh, .int .i64 wo, .int .i64 qu, .int .i64 tr], .agg (opv h s)] w (RetW (WhP a M h s xs) w) := by
  have f0 : decide (s.leaf < 0) = false := by simp; omega
  have T := fun w => Lib.hid (rleaves_any M hM.most w)
  replace hxs := Lib.hid hxs
  obtain ⟨b1, f1⟩ : ∃ b, decide ((lv M : Int) ≤ s.leaf) = b := ⟨_, rfl⟩
  obtain ⟨b2, f2⟩ : ∃ b, decide (s.item < 0) = b := ⟨_, rfl⟩
  obtain ⟨b3, f3⟩ : ∃ b, decide ((1000 : Int) < s.item) = b := ⟨_, rfl⟩
  obtain ⟨b4, f4⟩ : ∃ b, decide (s.at_ < 0) = b := ⟨_, rfl⟩
  obtain ⟨b5, f5⟩ : ∃ b, decide ((1 : Int) < s.at_) = b := ⟨_, rfl⟩
  obtain ⟨b6, f6⟩ : ∃ b, decide ((100 : Int) < (h.n0 : Int)) = b := ⟨_, rfl⟩
  obtain ⟨b7, f7⟩ : ∃ b, decide ((300 : Int) < (h.n3 : Int)) = b := ⟨_, rfl⟩
  obtain ⟨b8, f8⟩ : ∃ b, decide ((300 : Int) < (h.n1 : Int)) = b := ⟨_, rfl⟩
  obtain ⟨b9, f9⟩ : ∃ b, decide ((300 : Int) < (h.n2 : Int)) = b := ⟨_, rfl⟩
  obtain ⟨G2, hG2⟩ : ∃ G, G = (b1 || b2) := ⟨_, rfl⟩
  obtain ⟨G3, hG3⟩ : ∃ G, G = (G2 || b3) := ⟨_, rfl⟩
  obtain ⟨G4, hG4⟩ : ∃ G, G = (G3 || b4) := ⟨_, rfl⟩
  obtain ⟨G5, hG5⟩ : ∃ G, G = (G4 || b5) := ⟨_, rfl⟩
  obtain ⟨G6, hG6⟩ : ∃ G, G = (G5 || b6) := ⟨_, rfl⟩
  obtain ⟨G7, hG7⟩ : ∃ G, G = (G6 || b7) := ⟨_, rfl⟩
  obtain ⟨G8, hG8⟩ : ∃ G, G = (G7 || b8) := ⟨_, rfl⟩
  obtain ⟨G9, hG9⟩ : ∃ G, G = (G8 || b9) := ⟨_, rfl⟩
  have P : G9 = false → InB a M h.n0 xs → WhP a M h s xs := fun e hin => by
    rw [hG9, hG8, hG7, hG6, hG5, hG4, hG3, hG2] at e
    simp only [Bool.or_eq_false_iff] at e
    obtain ⟨⟨⟨⟨⟨⟨⟨⟨e1, e2⟩, e3⟩, e4⟩, e5⟩, e6⟩, e7⟩, e8⟩, e9⟩ := e
    rw [← f1] at e1; rw [← f2] at e2; rw [← f3] at e3; rw [← f4] at e4; rw [← f5] at e5; rw [← f6] at e6; rw [← f7] at e7; rw [← f8] at e8; rw [← f9] at e9
    simp only [decide_eq_false_iff_not] at e1 e2 e3 e4 e5 e6 e7 e8 e9
    exact ⟨⟨by omega, by omega⟩, ⟨by omega, by omega⟩, ⟨by omega, by omega⟩, ⟨by omega, by omega, by omega, by omega⟩, hin⟩
  have Q : G9 = false → h.n0 ≤ 100 := fun e => by
    rw [hG9, hG8, hG7] at e
    simp only [Bool.or_eq_false_iff] at e
    have e6 := e.1.1.1
    rw [hG6] at e6
    simp only [Bool.or_eq_false_iff] at e6
    have e6 := e6.2
    rw [← f6] at e6
    simp only [decide_eq_false_iff_not] at e6
    omega
  replace P := Lib.hid P
  replace Q := Lib.hid Q
  replace hG2 := Lib.hid hG2
  replace hG3 := Lib.hid hG3
  replace hG4 := Lib.hid hG4
  replace hG5 := Lib.hid hG5
  replace hG6 := Lib.hid hG6
  replace hG7 := Lib.hid hG7
  replace hG8 := Lib.hid hG8
  replace hG9 := Lib.hid hG9
  rcases s with ⟨kind, addr, err, aad, used, phase, shard, sought, leaf, bit, word, full, at_, tries, item, stamp⟩
  rcases h with ⟨A0, n0, c0, A1, n1, c1, A2, n2, c2, A3, n3, c3⟩
  try dsimp only at *
  go_enter Try.func34, Try.ntmps34
  go_upto_region 1 with (fail)
  have L := Loc.start w
  replace L := ((L).alloc #[.int .u32 (a : Int), .int .i64 p, .slice A n c, .int .i64 sh, .int .i64 wo, .int .i64 qu, .int .i64 tr] 27).alloc (opv ⟨A0, n0, c0, A1, n1, c1, A2, n2, c2, A3, n3, c3⟩ ⟨kind, addr, err, aad, used, phase, shard, sought, leaf, bit, word, full, at_, tries, item, stamp⟩) 42
  try simp only [World.size_alloc] at L
  try dsimp only [nput] at L
  generalize ((w).alloc (.cells #[.int .u32 (a : Int), .int .i64 p, .slice A n c, .int .i64 sh, .int .i64 wo, .int .i64 qu, .int .i64 tr] 27)).alloc (.cells (opv ⟨A0, n0, c0, A1, n1, c1, A2, n2, c2, A3, n3, c3⟩ ⟨kind, addr, err, aad, used, phase, shard, sought, leaf, bit, word, full, at_, tries, item, stamp⟩) 42) = w1 at L ⊢
  generalize w.heap.size + 1 = gO at L ⊢
  generalize w.heap.size = gH at L ⊢
  replace L := L.drew
  refine wp_region_held_drew (S := fun w' => Loc w w' [(gO, 42, opv ⟨A0, n0, c0, A1, n1, c1, A2, n2, c2, A3, n3, c3⟩ ⟨kind, addr, err, aad, used, phase, shard, sought, leaf, bit, word, full, at_, tries, item, stamp⟩), (gH, 27, #[.int .u32 (a : Int), .int .i64 p, .slice A n c, .int .i64 sh, .int .i64 wo, .int .i64 qu, .int .i64 tr])] []) (by kernel_rfl) L (fun hHeld => ?_)
  generalize w1.drew = v2 at hHeld L ⊢
  refine wpAnyH_take (i := 0) (oi := ⟨some 8, _, _, _, _, _⟩) (v := .pointer (some ⟨gO, 11, none⟩)) rfl (by kernel_rfl) (by kernel_rfl) (by kernel_rfl) (fun _ _ _ h => h) (Or.inl ⟨by rfl, ?_⟩) hHeld ?_
  · intro ww hS
    try dsimp only at hS
    go_simp
    try with_reducible rfl
    try omega
  try simp only [Act.put, List.setIfInBounds_toArray, List.set_cons_zero, List.set_cons_succ]
  refine wpAnyH_take (i := 1) (oi := ⟨some 9, _, _, _, _, _⟩) (v := .int .i64 leaf) rfl (by kernel_rfl) (by kernel_rfl) (by kernel_rfl) (fun _ _ _ h => h) (Or.inl ⟨by rfl, ?_⟩) hHeld ?_
  · intro ww hS
    try dsimp only at hS
    have O_11 := (hS).at_ 0 11 rfl (v := .int .i64 leaf) rfl
    have O_z := (hS).lt 0 rfl
    go_simp
    try with_reducible rfl
    try omega
  try simp only [Act.put, List.setIfInBounds_toArray, List.set_cons_zero, List.set_cons_succ]
  refine wpAnyH_take (i := 2) (oi := ⟨some 10, _, _, _, _, _⟩) (v := .bool false) rfl (by kernel_rfl) (by kernel_rfl) (by kernel_rfl) (fun _ _ _ h => h) (Or.inl ⟨by rfl, ?_⟩) hHeld ?_
  · intro ww hS
    try dsimp only at hS
    go_simp
    try with_reducible rfl
    try omega
  try simp only [Act.put, List.setIfInBounds_toArray, List.set_cons_zero, List.set_cons_succ]
  refine wpAnyH_take (i := 3) (oi := ⟨some 11, _, _, _, _, _⟩) (v := .bool false) rfl (by kernel_rfl) (by kernel_rfl) (by kernel_rfl) (fun _ _ _ h => h) (Or.inl ⟨by rfl, ?_⟩) hHeld ?_
  · intro ww hS
    try dsimp only at hS
    go_simp
    try with_reducible rfl
    try omega
  try simp only [Act.put, List.setIfInBounds_toArray, List.set_cons_zero, List.set_cons_succ]
  refine wpAnyH_take (i := 4) (oi := ⟨some 12, _, _, _, _, _⟩) (v := .pointer (some ⟨gO, 11, none⟩)) rfl (by kernel_rfl) (by kernel_rfl) (by kernel_rfl) (fun _ _ _ h => h) (Or.inl ⟨by rfl, ?_⟩) hHeld ?_
  · intro ww hS
    try dsimp only at hS
    go_simp
    try with_reducible rfl
    try omega
  try simp only [Act.put, List.setIfInBounds_toArray, List.set_cons_zero, List.set_cons_succ]
  refine wpAnyH_take (i := 5) (oi := ⟨some 13, _, _, _, _, _⟩) (v := .int .i64 leaf) rfl (by kernel_rfl) (by kernel_rfl) (by kernel_rfl) (fun _ _ _ h => h) (Or.inl ⟨by rfl, ?_⟩) hHeld ?_
  · intro ww hS
    try dsimp only at hS
    have O_11 := (hS).at_ 0 11 rfl (v := .int .i64 leaf) rfl
    have O_z := (hS).lt 0 rfl
    go_simp
    try with_reducible rfl
    try omega
  try simp only [Act.put, List.setIfInBounds_toArray, List.set_cons_zero, List.set_cons_succ]
  refine wpAnyH_take (i := 6) (oi := ⟨some 14, _, _, _, _, _⟩) (v := .pointer (some ⟨gH, 0, none⟩)) rfl (by kernel_rfl) (by kernel_rfl) (by kernel_rfl) (fun _ _ _ h => h) (Or.inl ⟨by rfl, ?_⟩) hHeld ?_
  · intro ww hS
    try dsimp only at hS
    go_simp
    try with_reducible rfl
    try omega
  try simp only [Act.put, List.setIfInBounds_toArray, List.set_cons_zero, List.set_cons_succ]
  refine wpAnyH_take (i := 7) (oi := ⟨some 15, _, _, _, _, _⟩) (v := .agg #[.int .u32 (a : Int), .int .i64 p]) rfl (by kernel_rfl) (by kernel_rfl) (by kernel_rfl) (fun _ _ _ h => h) (Or.inl ⟨by rfl, ?_⟩) hHeld ?_
  · intro ww hS
    try dsimp only at hS
    have H_0 := (hS).at_ 1 0 rfl (v := .int .u32 (a : Int)) rfl
    have H_z := (hS).lt 1 rfl
    have H_1 := (hS).at_ 1 1 rfl (v := .int .i64 p) rfl
    have H_z := (hS).lt 1 rfl
    go_simp
    try with_reducible rfl
    try omega
  try simp only [Act.put, List.setIfInBounds_toArray, List.set_cons_zero, List.set_cons_succ]
  refine wpAnyH_ready (rs := [8]) (by kernel_rfl) (by simp) ?_
  refine AllReadyH.cons (o := ⟨some 16, _, _, _, _, _⟩) rfl (fun K0 hK => ?_) AllReadyH.nil
  go_simp
  refine (rmany_yes hM).mono ?_
  rintro e w3 ⟨rfl, K'⟩
  replace L := L.over K'
  refine hK.out _ _ L (fun hHeld' => ?_)
  clear hHeld hK K0
  have hHeld := hHeld'
  clear hHeld'
  clear K'
  try simp only [Act.put, List.setIfInBounds_toArray, List.set_cons_zero, List.set_cons_succ]
  refine wpAnyH_ready (rs := [9]) (by kernel_rfl) (by simp) ?_
  refine AllReadyH.cons (o := ⟨some 17, _, _, _, _, _⟩) rfl (fun K0 hK => ?_) AllReadyH.nil
  go_simp
  refine ((T _).out).mono ?_
  rintro e w' ⟨rfl, rfl⟩
  refine hK.out _ _ L (fun hHeld' => ?_)
  clear hHeld hK K0
  have hHeld := hHeld'
  clear hHeld'
  try simp only [Act.put, List.setIfInBounds_toArray, List.set_cons_zero, List.set_cons_succ]
  refine wpAnyH_take (i := 10) (oi := ⟨some 18, _, _, _, _, _⟩) (v := .bool b1) rfl (by kernel_rfl) (by kernel_rfl) (by kernel_rfl) (fun _ _ _ h => h) (Or.inl ⟨by rfl, ?_⟩) hHeld ?_
  · intro ww hS
    try dsimp only at hS
    go_simp
    try with_reducible rfl
    try omega
  try simp only [Act.put, List.setIfInBounds_toArray, List.set_cons_zero, List.set_cons_succ]
  refine wpAnyH_take (i := 11) (oi := ⟨some 19, _, _, _, _, _⟩) (v := .bool b1) rfl (by kernel_rfl) (by kernel_rfl) (by kernel_rfl) (fun _ _ _ h => h) (Or.inl ⟨by rfl, ?_⟩) hHeld ?_
  · intro ww hS
    try dsimp only at hS
    go_simp
    try with_reducible rfl
    try omega
  try simp only [Act.put, List.setIfInBounds_toArray, List.set_cons_zero, List.set_cons_succ]
  refine wpAnyH_take (i := 12) (oi := ⟨some 20, _, _, _, _, _⟩) (v := .bool b1) rfl (by kernel_rfl) (by kernel_rfl) (by kernel_rfl) (fun _ _ _ h => h) (Or.inl ⟨by rfl, ?_⟩) hHeld ?_
  · intro ww hS
    try dsimp only at hS
    go_simp
    try with_reducible rfl
    try omega
  try simp only [Act.put, List.setIfInBounds_toArray, List.set_cons_zero, List.set_cons_succ]
  refine wpAnyH_take (i := 13) (oi := ⟨some 21, _, _, _, _, _⟩) (v := (bif b1 then undef else .pointer (some ⟨gO, 18, none⟩))) rfl (by kernel_rfl) (by kernel_rfl) (by kernel_rfl) (fun _ _ _ h => h) ?_ hHeld ?_
  · cases b1
    · skip
      refine Or.inl ⟨by rfl, ?_⟩
      intro ww hS
      try dsimp only at hS
      go_simp
      try with_reducible rfl
      try omega
    · exact Or.inr ⟨by rfl, rfl⟩
  try simp only [Act.put, List.setIfInBounds_toArray, List.set_cons_zero, List.set_cons_succ]
  refine wpAnyH_take (i := 14) (oi := ⟨some 22, _, _, _, _, _⟩) (v := (bif b1 then undef else .int .i64 item)) rfl (by kernel_rfl) (by kernel_rfl) (by kernel_rfl) (fun _ _ _ h => h) ?_ hHeld ?_
  · cases b1
    · skip
      refine Or.inl ⟨by rfl, ?_⟩
      intro ww hS
      try dsimp only at hS
      have O_18 := (hS).at_ 0 18 rfl (v := .int .i64 item) rfl
      have O_z := (hS).lt 0 rfl
      go_simp
      try with_reducible rfl
      try omega
    · exact Or.inr ⟨by rfl, rfl⟩
  try simp only [Act.put, List.setIfInBounds_toArray, List.set_cons_zero, List.set_cons_succ]
  refine wpAnyH_take (i := 15) (oi := ⟨some 23, _, _, _, _, _⟩) (v := (bif b1 then undef else .bool b2)) rfl (by kernel_rfl) (by kernel_rfl) (by kernel_rfl) (fun _ _ _ h => h) ?_ hHeld ?_
  · cases b1
    · skip
      refine Or.inl ⟨by rfl, ?_⟩
      intro ww hS
      try dsimp only at hS
      go_simp
      try with_reducible rfl
      try omega
    · exact Or.inr ⟨by rfl, rfl⟩
  try simp only [Act.put, List.setIfInBounds_toArray, List.set_cons_zero, List.set_cons_succ]
  refine wpAnyH_take (i := 16) (oi := ⟨some 24, _, _, _, _, _⟩) (v := .bool G2) rfl (by kernel_rfl) (by kernel_rfl) (by kernel_rfl) (fun _ _ _ h => h) ?_ hHeld ?_
  · rw [hG2.out]
    cases b1
    · skip
      refine Or.inl ⟨by rfl, ?_⟩
      intro ww hS
      try dsimp only at hS
      go_simp
      try with_reducible rfl
      try omega
    · skip
      refine Or.inl ⟨by rfl, ?_⟩
      intro ww hS
      try dsimp only at hS
      go_simp
      try with_reducible rfl
      try omega
  try simp only [Act.put, List.setIfInBounds_toArray, List.set_cons_zero, List.set_cons_succ]
  refine wpAnyH_take (i := 17) (oi := ⟨some 25, _, _, _, _, _⟩) (v := .bool G2) rfl (by kernel_rfl) (by kernel_rfl) (by kernel_rfl) (fun _ _ _ h => h) (Or.inl ⟨by rfl, ?_⟩) hHeld ?_
  · intro ww hS
    try dsimp only at hS
    go_simp
    try with_reducible rfl
    try omega
  try simp only [Act.put, List.setIfInBounds_toArray, List.set_cons_zero, List.set_cons_succ]
  refine wpAnyH_take (i := 18) (oi := ⟨some 26, _, _, _, _, _⟩) (v := (bif G2 then undef else .pointer (some ⟨gO, 18, none⟩))) rfl (by kernel_rfl) (by kernel_rfl) (by kernel_rfl) (fun _ _ _ h => h) ?_ hHeld ?_
  · cases G2
    · skip
      refine Or.inl ⟨by rfl, ?_⟩
      intro ww hS
      try dsimp only at hS
      go_simp
      try with_reducible rfl
      try omega
    · exact Or.inr ⟨by rfl, rfl⟩
  try simp only [Act.put, List.setIfInBounds_toArray, List.set_cons_zero, List.set_cons_succ]
  refine wpAnyH_take (i := 19) (oi := ⟨some 27, _, _, _, _, _⟩) (v := (bif G2 then undef else .int .i64 item)) rfl (by kernel_rfl) (by kernel_rfl) (by kernel_rfl) (fun _ _ _ h => h) ?_ hHeld ?_
  · cases G2
    · skip
      refine Or.inl ⟨by rfl, ?_⟩
      intro ww hS
      try dsimp only at hS
      have O_18 := (hS).at_ 0 18 rfl (v := .int .i64 item) rfl
      have O_z := (hS).lt 0 rfl
      go_simp
      try with_reducible rfl
      try omega
    · exact Or.inr ⟨by rfl, rfl⟩
  try simp only [Act.put, List.setIfInBounds_toArray, List.set_cons_zero, List.set_cons_succ]
  refine wpAnyH_take (i := 20) (oi := ⟨some 28, _, _, _, _, _⟩) (v := (bif G2 then undef else .bool b3)) rfl (by kernel_rfl) (by kernel_rfl) (by kernel_rfl) (fun _ _ _ h => h) ?_ hHeld ?_
  · cases G2
    · skip
      refine Or.inl ⟨by rfl, ?_⟩
      intro ww hS
      try dsimp only at hS
      go_simp
      try with_reducible rfl
      try omega
    · exact Or.inr ⟨by rfl, rfl⟩
  try simp only [Act.put, List.setIfInBounds_toArray, List.set_cons_zero, List.set_cons_succ]
  refine wpAnyH_take (i := 21) (oi := ⟨some 29, _, _, _, _, _⟩) (v := .bool G3) rfl (by kernel_rfl) (by kernel_rfl) (by kernel_rfl) (fun _ _ _ h => h) ?_ hHeld ?_
  · rw [hG3.out]
    cases G2
    · skip
      refine Or.inl ⟨by rfl, ?_⟩
      intro ww hS
      try dsimp only at hS
      go_simp
      try with_reducible rfl
      try omega
    · skip
      refine Or.inl ⟨by rfl, ?_⟩
      intro ww hS
      try dsimp only at hS
      go_simp
      try with_reducible rfl
      try omega
  try simp only [Act.put, List.setIfInBounds_toArray, List.set_cons_zero, List.set_cons_succ]
  refine wpAnyH_take (i := 22) (oi := ⟨some 30, _, _, _, _, _⟩) (v := .bool G3) rfl (by kernel_rfl) (by kernel_rfl) (by kernel_rfl) (fun _ _ _ h => h) (Or.inl ⟨by rfl, ?_⟩) hHeld ?_
  · intro ww hS
    try dsimp only at hS
    go_simp
    try with_reducible rfl
    try omega
  try simp only [Act.put, List.setIfInBounds_toArray, List.set_cons_zero, List.set_cons_succ]
  refine wpAnyH_take (i := 23) (oi := ⟨some 31, _, _, _, _, _⟩) (v := (bif G3 then undef else .pointer (some ⟨gO, 16, none⟩))) rfl (by kernel_rfl) (by kernel_rfl) (by kernel_rfl) (fun _ _ _ h => h) ?_ hHeld ?_
  · cases G3
    · skip
      refine Or.inl ⟨by rfl, ?_⟩
      intro ww hS
      try dsimp only at hS
      go_simp
      try with_reducible rfl
      try omega
    · exact Or.inr ⟨by rfl, rfl⟩
  try simp only [Act.put, List.setIfInBounds_toArray, List.set_cons_zero, List.set_cons_succ]
  refine wpAnyH_take (i := 24) (oi := ⟨some 32, _, _, _, _, _⟩) (v := (bif G3 then undef else .int .i64 at_)) rfl (by kernel_rfl) (by kernel_rfl) (by kernel_rfl) (fun _ _ _ h => h) ?_ hHeld ?_
  · cases G3
    · skip
      refine Or.inl ⟨by rfl, ?_⟩
      intro ww hS
      try dsimp only at hS
      have O_16 := (hS).at_ 0 16 rfl (v := .int .i64 at_) rfl
      have O_z := (hS).lt 0 rfl
      go_simp
      try with_reducible rfl
      try omega
    · exact Or.inr ⟨by rfl, rfl⟩
  try simp only [Act.put, List.setIfInBounds_toArray, List.set_cons_zero, List.set_cons_succ]
  refine wpAnyH_take (i := 25) (oi := ⟨some 33, _, _, _, _, _⟩) (v := (bif G3 then undef else .bool b4)) rfl (by kernel_rfl) (by kernel_rfl) (by kernel_rfl) (fun _ _ _ h => h) ?_ hHeld ?_
  · cases G3
    · skip
      refine Or.inl ⟨by rfl, ?_⟩
      intro ww hS
      try dsimp only at hS
      go_simp
      try with_reducible rfl
      try omega
    · exact Or.inr ⟨by rfl, rfl⟩
  try simp only [Act.put, List.setIfInBounds_toArray, List.set_cons_zero, List.set_cons_succ]
  refine wpAnyH_take (i := 26) (oi := ⟨some 34, _, _, _, _, _⟩) (v := .bool G4) rfl (by kernel_rfl) (by kernel_rfl) (by kernel_rfl) (fun _ _ _ h => h) ?_ hHeld ?_
  · rw [hG4.out]
    cases G3
    · skip
      refine Or.inl ⟨by rfl, ?_⟩
      intro ww hS
      try dsimp only at hS
      go_simp
      try with_reducible rfl
      try omega
    · skip
      refine Or.inl ⟨by rfl, ?_⟩
      intro ww hS
      try dsimp only at hS
      go_simp
      try with_reducible rfl
      try omega
  try simp only [Act.put, List.setIfInBounds_toArray, List.set_cons_zero, List.set_cons_succ]
  refine wpAnyH_take (i := 27) (oi := ⟨some 35, _, _, _, _, _⟩) (v := .bool G4) rfl (by kernel_rfl) (by kernel_rfl) (by kernel_rfl) (fun _ _ _ h => h) (Or.inl ⟨by rfl, ?_⟩) hHeld ?_
  · intro ww hS
    try dsimp only at hS
    go_simp
    try with_reducible rfl
    try omega
  try simp only [Act.put, List.setIfInBounds_toArray, List.set_cons_zero, List.set_cons_succ]
  refine wpAnyH_take (i := 28) (oi := ⟨some 36, _, _, _, _, _⟩) (v := (bif G4 then undef else .pointer (some ⟨gO, 16, none⟩))) rfl (by kernel_rfl) (by kernel_rfl) (by kernel_rfl) (fun _ _ _ h => h) ?_ hHeld ?_
  · cases G4
    · skip
      refine Or.inl ⟨by rfl, ?_⟩
      intro ww hS
      try dsimp only at hS
      go_simp
      try with_reducible rfl
      try omega
    · exact Or.inr ⟨by rfl, rfl⟩
  try simp only [Act.put, List.setIfInBounds_toArray, List.set_cons_zero, List.set_cons_succ]
  refine wpAnyH_take (i := 29) (oi := ⟨some 37, _, _, _, _, _⟩) (v := (bif G4 then undef else .int .i64 at_)) rfl (by kernel_rfl) (by kernel_rfl) (by kernel_rfl) (fun _ _ _ h => h) ?_ hHeld ?_
  · cases G4
    · skip
      refine Or.inl ⟨by rfl, ?_⟩
      intro ww hS
      try dsimp only at hS
      have O_16 := (hS).at_ 0 16 rfl (v := .int .i64 at_) rfl
      have O_z := (hS).lt 0 rfl
      go_simp
      try with_reducible rfl
      try omega
    · exact Or.inr ⟨by rfl, rfl⟩
  try simp only [Act.put, List.setIfInBounds_toArray, List.set_cons_zero, List.set_cons_succ]
  refine wpAnyH_take (i := 30) (oi := ⟨some 38, _, _, _, _, _⟩) (v := (bif G4 then undef else .bool b5)) rfl (by kernel_rfl) (by kernel_rfl) (by kernel_rfl) (fun _ _ _ h => h) ?_ hHeld ?_
  · cases G4
    · skip
      refine Or.inl ⟨by rfl, ?_⟩
      intro ww hS
      try dsimp only at hS
      go_simp
      try with_reducible rfl
      try omega
    · exact Or.inr ⟨by rfl, rfl⟩
  try simp only [Act.put, List.setIfInBounds_toArray, List.set_cons_zero, List.set_cons_succ]
  refine wpAnyH_take (i := 31) (oi := ⟨some 39, _, _, _, _, _⟩) (v := .bool G5) rfl (by kernel_rfl) (by kernel_rfl) (by kernel_rfl) (fun _ _ _ h => h) ?_ hHeld ?_
  · rw [hG5.out]
    cases G4
    · skip
      refine Or.inl ⟨by rfl, ?_⟩
      intro ww hS
      try dsimp only at hS
      go_simp
      try with_reducible rfl
      try omega
    · skip
      refine Or.inl ⟨by rfl, ?_⟩
      intro ww hS
      try dsimp only at hS
      go_simp
      try with_reducible rfl
      try omega
  try simp only [Act.put, List.setIfInBounds_toArray, List.set_cons_zero, List.set_cons_succ]
  refine wpAnyH_take (i := 32) (oi := ⟨some 40, _, _, _, _, _⟩) (v := .bool G5) rfl (by kernel_rfl) (by kernel_rfl) (by kernel_rfl) (fun _ _ _ h => h) (Or.inl ⟨by rfl, ?_⟩) hHeld ?_
  · intro ww hS
    try dsimp only at hS
    go_simp
    try with_reducible rfl
    try omega
  try simp only [Act.put, List.setIfInBounds_toArray, List.set_cons_zero, List.set_cons_succ]
  refine wpAnyH_take (i := 33) (oi := ⟨some 41, _, _, _, _, _⟩) (v := (bif G5 then undef else .pointer (some ⟨gO, 0, none⟩))) rfl (by kernel_rfl) (by kernel_rfl) (by kernel_rfl) (fun _ _ _ h => h) ?_ hHeld ?_
  · cases G5
    · skip
      refine Or.inl ⟨by rfl, ?_⟩
      intro ww hS
      try dsimp only at hS
      go_simp
      try with_reducible rfl
      try omega
    · exact Or.inr ⟨by rfl, rfl⟩
  try simp only [Act.put, List.setIfInBounds_toArray, List.set_cons_zero, List.set_cons_succ]
  refine wpAnyH_take (i := 34) (oi := ⟨some 42, _, _, _, _, _⟩) (v := (bif G5 then undef else .pointer (some ⟨gO, 2, none⟩))) rfl (by kernel_rfl) (by kernel_rfl) (by kernel_rfl) (fun _ _ _ h => h) ?_ hHeld ?_
  · cases G5
    · skip
      refine Or.inl ⟨by rfl, ?_⟩
      intro ww hS
      try dsimp only at hS
      go_simp
      try with_reducible rfl
      try omega
    · exact Or.inr ⟨by rfl, rfl⟩
  try simp only [Act.put, List.setIfInBounds_toArray, List.set_cons_zero, List.set_cons_succ]
  refine wpAnyH_take (i := 35) (oi := ⟨some 43, _, _, _, _, _⟩) (v := (bif G5 then undef else .slice A0 n0 c0)) rfl (by kernel_rfl) (by kernel_rfl) (by kernel_rfl) (fun _ _ _ h => h) ?_ hHeld ?_
  · cases G5
    · skip
      refine Or.inl ⟨by rfl, ?_⟩
      intro ww hS
      try dsimp only at hS
      have O_2 := (hS).at_ 0 2 rfl (v := .slice A0 n0 c0) rfl
      have O_z := (hS).lt 0 rfl
      go_simp
      try with_reducible rfl
      try omega
    · exact Or.inr ⟨by rfl, rfl⟩
  try simp only [Act.put, List.setIfInBounds_toArray, List.set_cons_zero, List.set_cons_succ]
  refine wpAnyH_take (i := 36) (oi := ⟨some 44, _, _, _, _, _⟩) (v := (bif G5 then undef else .int .i64 (n0 : Int))) rfl (by kernel_rfl) (by kernel_rfl) (by kernel_rfl) (fun _ _ _ h => h) ?_ hHeld ?_
  · cases G5
    · skip
      refine Or.inl ⟨by rfl, ?_⟩
      intro ww hS
      try dsimp only at hS
      go_simp
      try with_reducible rfl
      try omega
    · exact Or.inr ⟨by rfl, rfl⟩
  try simp only [Act.put, List.setIfInBounds_toArray, List.set_cons_zero, List.set_cons_succ]
  refine wpAnyH_take (i := 37) (oi := ⟨some 45, _, _, _, _, _⟩) (v := (bif G5 then undef else .bool b6)) rfl (by kernel_rfl) (by kernel_rfl) (by kernel_rfl) (fun _ _ _ h => h) ?_ hHeld ?_
  · cases G5
    · skip
      refine Or.inl ⟨by rfl, ?_⟩
      intro ww hS
      try dsimp only at hS
      go_simp
      try with_reducible rfl
      try omega
    · exact Or.inr ⟨by rfl, rfl⟩
  try simp only [Act.put, List.setIfInBounds_toArray, List.set_cons_zero, List.set_cons_succ]
  refine wpAnyH_take (i := 38) (oi := ⟨some 46, _, _, _, _, _⟩) (v := .bool G6) rfl (by kernel_rfl) (by kernel_rfl) (by kernel_rfl) (fun _ _ _ h => h) ?_ hHeld ?_
  · rw [hG6.out]
    cases G5
    · skip
      refine Or.inl ⟨by rfl, ?_⟩
      intro ww hS
      try dsimp only at hS
      go_simp
      try with_reducible rfl
      try omega
    · skip
      refine Or.inl ⟨by rfl, ?_⟩
      intro ww hS
      try dsimp only at hS
      go_simp
      try with_reducible rfl
      try omega
  try simp only [Act.put, List.setIfInBounds_toArray, List.set_cons_zero, List.set_cons_succ]
  refine wpAnyH_take (i := 39) (oi := ⟨some 47, _, _, _, _, _⟩) (v := .bool G6) rfl (by kernel_rfl) (by kernel_rfl) (by kernel_rfl) (fun _ _ _ h => h) (Or.inl ⟨by rfl, ?_⟩) hHeld ?_
  · intro ww hS
    try dsimp only at hS
    go_simp
    try with_reducible rfl
    try omega
  try simp only [Act.put, List.setIfInBounds_toArray, List.set_cons_zero, List.set_cons_succ]
  refine wpAnyH_take (i := 40) (oi := ⟨some 48, _, _, _, _, _⟩) (v := (bif G6 then undef else .pointer (some ⟨gO, 15, none⟩))) rfl (by kernel_rfl) (by kernel_rfl) (by kernel_rfl) (fun _ _ _ h => h) ?_ hHeld ?_
  · cases G6
    · skip
      refine Or.inl ⟨by rfl, ?_⟩
      intro ww hS
      try dsimp only at hS
      go_simp
      try with_reducible rfl
      try omega
    · exact Or.inr ⟨by rfl, rfl⟩
  try simp only [Act.put, List.setIfInBounds_toArray, List.set_cons_zero, List.set_cons_succ]
  refine wpAnyH_take (i := 41) (oi := ⟨some 49, _, _, _, _, _⟩) (v := (bif G6 then undef else .slice A3 n3 c3)) rfl (by kernel_rfl) (by kernel_rfl) (by kernel_rfl) (fun _ _ _ h => h) ?_ hHeld ?_
  · cases G6
    · skip
      refine Or.inl ⟨by rfl, ?_⟩
      intro ww hS
      try dsimp only at hS
      have O_15 := (hS).at_ 0 15 rfl (v := .slice A3 n3 c3) rfl
      have O_z := (hS).lt 0 rfl
      go_simp
      try with_reducible rfl
      try omega
    · exact Or.inr ⟨by rfl, rfl⟩
  try simp only [Act.put, List.setIfInBounds_toArray, List.set_cons_zero, List.set_cons_succ]
  refine wpAnyH_take (i := 42) (oi := ⟨some 50, _, _, _, _, _⟩) (v := (bif G6 then undef else .int .i64 (n3 : Int))) rfl (by kernel_rfl) (by kernel_rfl) (by kernel_rfl) (fun _ _ _ h => h) ?_ hHeld ?_
  · cases G6
    · skip
      refine Or.inl ⟨by rfl, ?_⟩
      intro ww hS
      try dsimp only at hS
      go_simp
      try with_reducible rfl
      try omega
    · exact Or.inr ⟨by rfl, rfl⟩
  try simp only [Act.put, List.setIfInBounds_toArray, List.set_cons_zero, List.set_cons_succ]
  refine wpAnyH_take (i := 43) (oi := ⟨some 51, _, _, _, _, _⟩) (v := (bif G6 then undef else .bool b7)) rfl (by kernel_rfl) (by kernel_rfl) (by kernel_rfl) (fun _ _ _ h => h) ?_ hHeld ?_
  · cases G6
    · skip
      refine Or.inl ⟨by rfl, ?_⟩
      intro ww hS
      try dsimp only at hS
      go_simp
      try with_reducible rfl
      try omega
    · exact Or.inr ⟨by rfl, rfl⟩
  try simp only [Act.put, List.setIfInBounds_toArray, List.set_cons_zero, List.set_cons_succ]
  refine wpAnyH_take (i := 44) (oi := ⟨some 52, _, _, _, _, _⟩) (v := .bool G7) rfl (by kernel_rfl) (by kernel_rfl) (by kernel_rfl) (fun _ _ _ h => h) ?_ hHeld ?_
  · rw [hG7.out]
    cases G6
    · skip
      refine Or.inl ⟨by rfl, ?_⟩
      intro ww hS
      try dsimp only at hS
      go_simp
      try with_reducible rfl
      try omega
    · skip
      refine Or.inl ⟨by rfl, ?_⟩
      intro ww hS
      try dsimp only at hS
      go_simp
      try with_reducible rfl
      try omega
  try simp only [Act.put, List.setIfInBounds_toArray, List.set_cons_zero, List.set_cons_succ]
  refine wpAnyH_take (i := 45) (oi := ⟨some 53, _, _, _, _, _⟩) (v := .bool G7) rfl (by kernel_rfl) (by kernel_rfl) (by kernel_rfl) (fun _ _ _ h => h) (Or.inl ⟨by rfl, ?_⟩) hHeld ?_
  · intro ww hS
    try dsimp only at hS
    go_simp
    try with_reducible rfl
    try omega
  try simp only [Act.put, List.setIfInBounds_toArray, List.set_cons_zero, List.set_cons_succ]
  refine wpAnyH_take (i := 46) (oi := ⟨some 54, _, _, _, _, _⟩) (v := (bif G7 then undef else .pointer (some ⟨gO, 3, none⟩))) rfl (by kernel_rfl) (by kernel_rfl) (by kernel_rfl) (fun _ _ _ h => h) ?_ hHeld ?_
  · cases G7
    · skip
      refine Or.inl ⟨by rfl, ?_⟩
      intro ww hS
      try dsimp only at hS
      go_simp
      try with_reducible rfl
      try omega
    · exact Or.inr ⟨by rfl, rfl⟩
  try simp only [Act.put, List.setIfInBounds_toArray, List.set_cons_zero, List.set_cons_succ]
  refine wpAnyH_take (i := 47) (oi := ⟨some 55, _, _, _, _, _⟩) (v := (bif G7 then undef else .pointer (some ⟨gO, 6, none⟩))) rfl (by kernel_rfl) (by kernel_rfl) (by kernel_rfl) (fun _ _ _ h => h) ?_ hHeld ?_
  · cases G7
    · skip
      refine Or.inl ⟨by rfl, ?_⟩
      intro ww hS
      try dsimp only at hS
      go_simp
      try with_reducible rfl
      try omega
    · exact Or.inr ⟨by rfl, rfl⟩
  try simp only [Act.put, List.setIfInBounds_toArray, List.set_cons_zero, List.set_cons_succ]
  refine wpAnyH_take (i := 48) (oi := ⟨some 56, _, _, _, _, _⟩) (v := (bif G7 then undef else .slice A1 n1 c1)) rfl (by kernel_rfl) (by kernel_rfl) (by kernel_rfl) (fun _ _ _ h => h) ?_ hHeld ?_
  · cases G7
    · skip
      refine Or.inl ⟨by rfl, ?_⟩
      intro ww hS
      try dsimp only at hS
      have O_6 := (hS).at_ 0 6 rfl (v := .slice A1 n1 c1) rfl
      have O_z := (hS).lt 0 rfl
      go_simp
      try with_reducible rfl
      try omega
    · exact Or.inr ⟨by rfl, rfl⟩
  try simp only [Act.put, List.setIfInBounds_toArray, List.set_cons_zero, List.set_cons_succ]
  refine wpAnyH_take (i := 49) (oi := ⟨some 57, _, _, _, _, _⟩) (v := (bif G7 then undef else .int .i64 (n1 : Int))) rfl (by kernel_rfl) (by kernel_rfl) (by kernel_rfl) (fun _ _ _ h => h) ?_ hHeld ?_
  · cases G7
    · skip
      refine Or.inl ⟨by rfl, ?_⟩
      intro ww hS
      try dsimp only at hS
      go_simp
      try with_reducible rfl
      try omega
    · exact Or.inr ⟨by rfl, rfl⟩
  try simp only [Act.put, List.setIfInBounds_toArray, List.set_cons_zero, List.set_cons_succ]
  refine wpAnyH_take (i := 50) (oi := ⟨some 58, _, _, _, _, _⟩) (v := (bif G7 then undef else .bool b8)) rfl (by kernel_rfl) (by kernel_rfl) (by kernel_rfl) (fun _ _ _ h => h) ?_ hHeld ?_
  · cases G7
    · skip
      refine Or.inl ⟨by rfl, ?_⟩
      intro ww hS
      try dsimp only at hS
      go_simp
      try with_reducible rfl
      try omega
    · exact Or.inr ⟨by rfl, rfl⟩
  try simp only [Act.put, List.setIfInBounds_toArray, List.set_cons_zero, List.set_cons_succ]
  refine wpAnyH_take (i := 51) (oi := ⟨some 59, _, _, _, _, _⟩) (v := .bool G8) rfl (by kernel_rfl) (by kernel_rfl) (by kernel_rfl) (fun _ _ _ h => h) ?_ hHeld ?_
  · rw [hG8.out]
    cases G7
    · skip
      refine Or.inl ⟨by rfl, ?_⟩
      intro ww hS
      try dsimp only at hS
      go_simp
      try with_reducible rfl
      try omega
    · skip
      refine Or.inl ⟨by rfl, ?_⟩
      intro ww hS
      try dsimp only at hS
      go_simp
      try with_reducible rfl
      try omega
  try simp only [Act.put, List.setIfInBounds_toArray, List.set_cons_zero, List.set_cons_succ]
  refine wpAnyH_take (i := 52) (oi := ⟨some 60, _, _, _, _, _⟩) (v := .bool G8) rfl (by kernel_rfl) (by kernel_rfl) (by kernel_rfl) (fun _ _ _ h => h) (Or.inl ⟨by rfl, ?_⟩) hHeld ?_
  · intro ww hS
    try dsimp only at hS
    go_simp
    try with_reducible rfl
    try omega
  try simp only [Act.put, List.setIfInBounds_toArray, List.set_cons_zero, List.set_cons_succ]
  refine wpAnyH_take (i := 53) (oi := ⟨some 61, _, _, _, _, _⟩) (v := (bif G8 then undef else .pointer (some ⟨gO, 3, none⟩))) rfl (by kernel_rfl) (by kernel_rfl) (by kernel_rfl) (fun _ _ _ h => h) ?_ hHeld ?_
  · cases G8
    · skip
      refine Or.inl ⟨by rfl, ?_⟩
      intro ww hS
      try dsimp only at hS
      go_simp
      try with_reducible rfl
      try omega
    · exact Or.inr ⟨by rfl, rfl⟩
  try simp only [Act.put, List.setIfInBounds_toArray, List.set_cons_zero, List.set_cons_succ]
  refine wpAnyH_take (i := 54) (oi := ⟨some 62, _, _, _, _, _⟩) (v := (bif G8 then undef else .pointer (some ⟨gO, 7, none⟩))) rfl (by kernel_rfl) (by kernel_rfl) (by kernel_rfl) (fun _ _ _ h => h) ?_ hHeld ?_
  · cases G8
    · skip
      refine Or.inl ⟨by rfl, ?_⟩
      intro ww hS
      try dsimp only at hS
      go_simp
      try with_reducible rfl
      try omega
    · exact Or.inr ⟨by rfl, rfl⟩
  try simp only [Act.put, List.setIfInBounds_toArray, List.set_cons_zero, List.set_cons_succ]
  refine wpAnyH_take (i := 55) (oi := ⟨some 63, _, _, _, _, _⟩) (v := (bif G8 then undef else .slice A2 n2 c2)) rfl (by kernel_rfl) (by kernel_rfl) (by kernel_rfl) (fun _ _ _ h => h) ?_ hHeld ?_
  · cases G8
    · skip
      refine Or.inl ⟨by rfl, ?_⟩
      intro ww hS
      try dsimp only at hS
      have O_7 := (hS).at_ 0 7 rfl (v := .slice A2 n2 c2) rfl
      have O_z := (hS).lt 0 rfl
      go_simp
      try with_reducible rfl
      try omega
    · exact Or.inr ⟨by rfl, rfl⟩
  try simp only [Act.put, List.setIfInBounds_toArray, List.set_cons_zero, List.set_cons_succ]
  refine wpAnyH_take (i := 56) (oi := ⟨some 64, _, _, _, _, _⟩) (v := (bif G8 then undef else .int .i64 (n2 : Int))) rfl (by kernel_rfl) (by kernel_rfl) (by kernel_rfl) (fun _ _ _ h => h) ?_ hHeld ?_
  · cases G8
    · skip
      refine Or.inl ⟨by rfl, ?_⟩
      intro ww hS
      try dsimp only at hS
      go_simp
      try with_reducible rfl
      try omega
    · exact Or.inr ⟨by rfl, rfl⟩
  try simp only [Act.put, List.setIfInBounds_toArray, List.set_cons_zero, List.set_cons_succ]
  refine wpAnyH_take (i := 57) (oi := ⟨some 65, _, _, _, _, _⟩) (v := (bif G8 then undef else .bool b9)) rfl (by kernel_rfl) (by kernel_rfl) (by kernel_rfl) (fun _ _ _ h => h) ?_ hHeld ?_
  · cases G8
    · skip
      refine Or.inl ⟨by rfl, ?_⟩
      intro ww hS
      try dsimp only at hS
      go_simp
      try with_reducible rfl
      try omega
    · exact Or.inr ⟨by rfl, rfl⟩
  try simp only [Act.put, List.setIfInBounds_toArray, List.set_cons_zero, List.set_cons_succ]
  refine wpAnyH_take (i := 58) (oi := ⟨some 66, _, _, _, _, _⟩) (v := .bool G9) rfl (by kernel_rfl) (by kernel_rfl) (by kernel_rfl) (fun _ _ _ h => h) ?_ hHeld ?_
  · rw [hG9.out]
    cases G8
    · skip
      refine Or.inl ⟨by rfl, ?_⟩
      intro ww hS
      try dsimp only at hS
      go_simp
      try with_reducible rfl
      try omega
    · skip
      refine Or.inl ⟨by rfl, ?_⟩
      intro ww hS
      try dsimp only at hS
      go_simp
      try with_reducible rfl
      try omega
  try simp only [Act.put, List.setIfInBounds_toArray, List.set_cons_zero, List.set_cons_succ]
  refine wpAnyH_done (by kernel_rfl) ?_ _
  clear hHeld
  cases G9 with
  | true =>
    clear P Q
    go_wp2
    go_ret
    exact ⟨false, rfl, (fun e => by cases e), L.K⟩
  | false =>
    have P := Lib.hid (P.out rfl)
    have hn0 := Q.out rfl
    clear Q
    clear hG2 hG3 hG4 hG5 hG6 hG7 hG8 hG9
    clear hng f1 f2 f3 f4 f5 f6 f7 f8 f9 f0
    skip
    have O_2 := L.at_ 0 2 rfl (v := .slice A0 n0 c0) rfl
    have O_z := L.lt 0 rfl
    go_wp2
    clear O_2 O_z
    go_loopw [5, 6, 7] (fun i r1 r2 wr => ∃ k : Nat, k ≤ n0 ∧ i = .int .i64 k ∧ Hid (∀ j, j < k → ∃ x : Nat, gi xs j = (x : Int) ∧ a ≤ x ∧ x < a + M) ∧ Loc w wr [(gO, 42, opv ⟨A0, n0, c0, A1, n1, c1, A2, n2, c2, A3, n3, c3⟩ ⟨kind, addr, err, aad, used, phase, shard, sought, leaf, bit, word, full, at_, tries, item, stamp⟩), (gH, 27, #[.int .u32 (a : Int), .int .i64 p, .slice A n c, .int .i64 sh, .int .i64 wo, .int .i64 qu, .int .i64 tr])] []) (fun i _ _ _ => n0 - (intOf i).toNat)
    case atStart => exact ⟨0, Nat.zero_le _, rfl, Lib.hid (fun j hj => absurd hj (by omega)), L⟩
    case round =>
      clear L
      obtain ⟨k, hk, rfl, hj, L⟩ := hrel
      by_cases hlt : k < n0
      · obtain ⟨b, o, rfl, hb, hc⟩ := hI.get (j := k) hlt
        obtain ⟨x, hx, hx0⟩ := hxs.out k hlt
        rw [hx] at hc
        have T1 := fun w => Lib.hid (roffset_any (w := w) (p := p) x hx0 hM)
        obtain ⟨r1, hr1⟩ : ∃ r, r = ofO a M x := ⟨_, rfl⟩
        obtain ⟨r2, hr2⟩ : ∃ r, r = ofE a M x := ⟨_, rfl⟩
        simp only [← hr1, ← hr2] at T1
        replace hx := Lib.hid hx
        replace hr2 := Lib.hid hr2
        clear hr1
        have e1 : (k : Int) < (n0 : Int) := by omega
        have O_2 := L.at_ 0 2 rfl (v := .slice (some ⟨b, o, none⟩) n0 c0) rfl
        have O_z := L.lt 0 rfl
        go_upto_region 6 with (fail)
        clear O_2 O_z
        replace L := L.drew
        refine wp_region_held_drew (S := fun w' => Loc w w' [(gO, 42, opv ⟨(some ⟨b, o, none⟩), n0, c0, A1, n1, c1, A2, n2, c2, A3, n3, c3⟩ ⟨kind, addr, err, aad, used, phase, shard, sought, leaf, bit, word, full, at_, tries, item, stamp⟩), (gH, 27, #[.int .u32 (a : Int), .int .i64 p, .slice A n c, .int .i64 sh, .int .i64 wo, .int .i64 qu, .int .i64 tr])] []) (by kernel_rfl) L (fun hHeld => ?_)
        generalize wr.drew = v4 at hHeld L ⊢
        refine wpAnyH_take (i := 0) (oi := ⟨some 76, _, _, _, _, _⟩) (v := .pointer (some ⟨gH, 0, none⟩)) rfl (by kernel_rfl) (by kernel_rfl) (by kernel_rfl) (fun _ _ _ h => h) (Or.inl ⟨by rfl, ?_⟩) hHeld ?_
        · intro ww hS
          try dsimp only at hS
          go_simp
          try with_reducible rfl
          try omega
        try simp only [Act.put, List.setIfInBounds_toArray, List.set_cons_zero, List.set_cons_succ]
        refine wpAnyH_take (i := 1) (oi := ⟨some 77, _, _, _, _, _⟩) (v := .agg #[.int .u32 (a : Int), .int .i64 p]) rfl (by kernel_rfl) (by kernel_rfl) (by kernel_rfl) (fun _ _ _ h => h) (Or.inl ⟨by rfl, ?_⟩) hHeld ?_
        · intro ww hS
          try dsimp only at hS
          have H_0 := (hS).at_ 1 0 rfl (v := .int .u32 (a : Int)) rfl
          have H_z := (hS).lt 1 rfl
          have H_1 := (hS).at_ 1 1 rfl (v := .int .i64 p) rfl
          have H_z := (hS).lt 1 rfl
          go_simp
          try with_reducible rfl
          try omega
        try simp only [Act.put, List.setIfInBounds_toArray, List.set_cons_zero, List.set_cons_succ]
        refine wpAnyH_take (i := 2) (oi := ⟨some 78, _, _, _, _, _⟩) (v := .pointer (some ⟨gO, 0, none⟩)) rfl (by kernel_rfl) (by kernel_rfl) (by kernel_rfl) (fun _ _ _ h => h) (Or.inl ⟨by rfl, ?_⟩) hHeld ?_
        · intro ww hS
          try dsimp only at hS
          go_simp
          try with_reducible rfl
          try omega
        try simp only [Act.put, List.setIfInBounds_toArray, List.set_cons_zero, List.set_cons_succ]
        refine wpAnyH_take (i := 3) (oi := ⟨some 79, _, _, _, _, _⟩) (v := .pointer (some ⟨gO, 2, none⟩)) rfl (by kernel_rfl) (by kernel_rfl) (by kernel_rfl) (fun _ _ _ h => h) (Or.inl ⟨by rfl, ?_⟩) hHeld ?_
        · intro ww hS
          try dsimp only at hS
          go_simp
          try with_reducible rfl
          try omega
        try simp only [Act.put, List.setIfInBounds_toArray, List.set_cons_zero, List.set_cons_succ]
        refine wpAnyH_take (i := 4) (oi := ⟨some 80, _, _, _, _, _⟩) (v := .slice (some ⟨b, o, none⟩) n0 c0) rfl (by kernel_rfl) (by kernel_rfl) (by kernel_rfl) (fun _ _ _ h => h) (Or.inl ⟨by rfl, ?_⟩) hHeld ?_
        · intro ww hS
          try dsimp only at hS
          have O_2 := (hS).at_ 0 2 rfl (v := .slice (some ⟨b, o, none⟩) n0 c0) rfl
          have O_z := (hS).lt 0 rfl
          go_simp
          try with_reducible rfl
          try omega
        try simp only [Act.put, List.setIfInBounds_toArray, List.set_cons_zero, List.set_cons_succ]
        refine wpAnyH_take (i := 5) (oi := ⟨some 81, _, _, _, _, _⟩) (v := .int .i64 (k : Int)) rfl (by kernel_rfl) (by kernel_rfl) (by kernel_rfl) (fun _ _ _ h => h) (Or.inl ⟨by rfl, ?_⟩) hHeld ?_
        · intro ww hS
          try dsimp only at hS
          go_simp
          try with_reducible rfl
          try omega
        try simp only [Act.put, List.setIfInBounds_toArray, List.set_cons_zero, List.set_cons_succ]
        refine wpAnyH_take (i := 6) (oi := ⟨some 82, _, _, _, _, _⟩) (v := .pointer (some ⟨b, o + k, none⟩)) rfl (by kernel_rfl) (by kernel_rfl) (by kernel_rfl) (fun _ _ _ h => h) (Or.inl ⟨by rfl, ?_⟩) hHeld ?_
        · intro ww hS
          try dsimp only at hS
          go_simp
          try with_reducible rfl
          try omega
        try simp only [Act.put, List.setIfInBounds_toArray, List.set_cons_zero, List.set_cons_succ]
        refine wpAnyH_take (i := 7) (oi := ⟨some 83, _, _, _, _, _⟩) (v := .int .u32 (x : Int)) rfl (by kernel_rfl) (by kernel_rfl) (by kernel_rfl) (fun _ _ _ h => h) (Or.inl ⟨by rfl, ?_⟩) hHeld ?_
        · intro ww hS
          try dsimp only at hS
          have X := ((hS).K.cell (p := ⟨b, o + k, none⟩) hb).trans hc
          go_simp
          try with_reducible rfl
          try omega
        try simp only [Act.put, List.setIfInBounds_toArray, List.set_cons_zero, List.set_cons_succ]
        refine wpAnyH_ready (rs := [8]) (by kernel_rfl) (by simp) ?_
        refine AllReadyH.cons (o := ⟨some 84, _, _, _, _, _⟩) rfl (fun K0 hK => ?_) AllReadyH.nil
        go_simp
        refine ((T1 _).out).mono ?_
        rintro e w5 ⟨rfl, K'⟩
        replace L := L.over K'
        refine hK.out _ _ L (fun hHeld' => ?_)
        clear hHeld hK K0
        have hHeld := hHeld'
        clear hHeld'
        clear K'
        try simp only [Act.put, List.setIfInBounds_toArray, List.set_cons_zero, List.set_cons_succ]
        refine wpAnyH_take (i := 9) (oi := ⟨some 75, _, _, _, _, _⟩) (v := ?_) rfl (by kernel_rfl) (by kernel_rfl) (by kernel_rfl) (fun _ _ _ h => h) (Or.inl ⟨by rfl, ?_⟩) hHeld ?_
        rotate_left
        · intro ww hS
          try dsimp only at hS
          go_simp
          try with_reducible rfl
          try omega
        try simp only [Act.put, List.setIfInBounds_toArray, List.set_cons_zero, List.set_cons_succ]
        refine wpAnyH_take (i := 10) (oi := ⟨some 85, _, _, _, _, _⟩) (v := .int .i64 r1) rfl (by kernel_rfl) (by kernel_rfl) (by kernel_rfl) (fun _ _ _ h => h) (Or.inl ⟨by rfl, ?_⟩) hHeld ?_
        · intro ww hS
          try dsimp only at hS
          go_simp
          try with_reducible rfl
          try omega
        try simp only [Act.put, List.setIfInBounds_toArray, List.set_cons_zero, List.set_cons_succ]
        refine wpAnyH_take (i := 11) (oi := ⟨some 86, _, _, _, _, _⟩) (v := .int .i64 r2) rfl (by kernel_rfl) (by kernel_rfl) (by kernel_rfl) (fun _ _ _ h => h) (Or.inl ⟨by rfl, ?_⟩) hHeld ?_
        · intro ww hS
          try dsimp only at hS
          go_simp
          try with_reducible rfl
          try omega
        try simp only [Act.put, List.setIfInBounds_toArray, List.set_cons_zero, List.set_cons_succ]
        refine wpAnyH_take (i := 12) (oi := ⟨some 6, _, _, _, _, _⟩) (v := .int .i64 r1) rfl (by kernel_rfl) (by kernel_rfl) (by kernel_rfl) (fun _ _ _ h => h) (Or.inl ⟨by rfl, ?_⟩) hHeld ?_
        · intro ww hS
          try dsimp only at hS
          go_simp
          try with_reducible rfl
          try omega
        try simp only [Act.put, List.setIfInBounds_toArray, List.set_cons_zero, List.set_cons_succ]
        refine wpAnyH_take (i := 13) (oi := ⟨some 7, _, _, _, _, _⟩) (v := .int .i64 r2) rfl (by kernel_rfl) (by kernel_rfl) (by kernel_rfl) (fun _ _ _ h => h) (Or.inl ⟨by rfl, ?_⟩) hHeld ?_
        · intro ww hS
          try dsimp only at hS
          go_simp
          try with_reducible rfl
          try omega
        try simp only [Act.put, List.setIfInBounds_toArray, List.set_cons_zero, List.set_cons_succ]
        refine wpAnyH_done (by kernel_rfl) ?_ _
        clear hHeld
        by_cases hE : r2 = 0
        · have f7 : (r2 != 0) = false := by simp [hE]
          have hin := ofE_zero (hr2.out ▸ hE)
          replace hE := Lib.hid hE
          go_wp2
          go_roundw
          case rel => exact ⟨k + 1, by omega, by go_num, Lib.hid (fun j hj2 => by
            rcases Nat.lt_or_ge j k with h | h
            · exact hj.out j h
            · obtain rfl : j = k := by omega
              exact ⟨x, hx.out, hin.1, hin.2⟩), L⟩
          case measure => simp [intOf]; omega
        · have f7 : (r2 != 0) = true := by simpa using hE
          clear hE
          go_wp2
          go_ret
          exact ⟨false, rfl, (fun e => by cases e), L.K⟩
      · have O_2 := L.at_ 0 2 rfl (v := .slice A0 n0 c0) rfl
        have O_z := L.lt 0 rfl
        go_wp2
        go_ret
        exact ⟨true, rfl, fun _ => P.out trivial (fun j hj2 => hj.out j (by omega)), L.K⟩
theorem whole_any (hM : Much a p M) (hI : IS .u32 lo w h.A0 h.n0 h.c0 xs) (hxs : ∀ j, j < h.n0 → ∃ x : Nat, gi xs j = (x : Int) ∧ x < 4294967296) :
    Calls Try.prog 34 #[.agg #[.int .u32 (a : Int), .int .i64 p, .slice A n c, .int .i64 sh, .int .i64 wo, .int .i64 qu, .int .i64 tr], .agg (opv h s)] w (RetW (WhP a M h s xs) w) := by
  by_cases hng : s.leaf < 0
  · exact whole_neg hM hng
  · exact whole_pos hM hI hxs hng
end
end Go.Proofs.Ytafdlofmgefdoaa

