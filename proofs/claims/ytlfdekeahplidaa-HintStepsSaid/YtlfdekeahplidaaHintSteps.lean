/-
  The walk of the law HintSteps: for every configuration, cells, operation and places it answers true.
-/
import Derived.Test.YtlfdekeahplidaaHintAwake
import Derived.Test.YtlfdekeahplidaaHintWhole
import Derived.Test.YtlfdekeahplidaaHintGuard
import Derived.Test.YtlfdekeahplidaaHintSame
import Derived.Test.YtlfdekeahplidaaHintAny
namespace Go.Proofs.Ytlfdekeahplidaa.hintSteps
open Go.RowKit
set_option linter.unusedVariables false
section
variable {w : World} {lo a m d F T f t : Nat} {p sh wo qu tr : Int} {A B : Option Addr} {n c : Nat} {zs xs : List Int} {ys : List Nat} {h : Hd} {s : Sc} {l : Ls}
set_option maxRecDepth 100000 in
set_option maxHeartbeats 1000000 in
theorem other (ha : a < 4294967296) (h0 : IS .i64 lo w A n c zs) (hU : US w B m d ys) (hI : IS .u32 0 w h.A0 h.n0 h.c0 xs) (hxs : ∀ j, j < h.n0 → ∃ x : Nat, gi xs j = (x : Int) ∧ x < 4294967296) (L : Lists 0 w h l) (hf : ∀ x ∈ l.ses, (Lit.int .u64 x).wf = true) (hw : s.word < 18446744073709551616) (hF : (F : Int) % 65 = (f : Nat)) (hT : (T : Int) % 65 = (t : Nat)) (hF2 : F < 256) (hT2 : T < 256) (hf1 : f ≤ 64) (ht1 : t ≤ 64) (hph : s.phase ≠ 4 ∧ s.phase ≠ 5) :
    Calls Try.prog 3 #[.agg #[.int .u32 a, .int .i64 p, .slice A n c, .int .i64 sh, .int .i64 wo, .int .i64 qu, .int .i64 tr], .slice B m d, .agg (opv h s), .int .u8 F, .int .u8 T] w (RetBo true w) := by
  replace hxs := Lib.hid hxs
  replace hf := Lib.hid hf
  have hx := Lib.hid (L.i0.uniq hI)
  have C0 := fun w => Lib.hid (find_any s.word f t hw hf1 ht1 w)
  have C1 := fun w => Lib.hid (rfind_any s.word f t hw hf1 ht1 w)
  generalize fi (fl_ s.word f) t = u at C0 C1
  generalize fb (fl_ s.word f) t = v at C0 C1
  have f1 : ((u : Int) != (u : Int)) = false := by simp
  have f2 : (v != v) = false := by simp
  have f4 : (s.phase != 4) = true := by simpa using hph.1
  have f5 : (s.phase != 5) = true := by simpa using hph.2
  clear hph
  rcases h with ⟨A0, n0, c0, A1, n1, c1, A2, n2, c2, A3, n3, c3⟩
  dsimp only at *
  go_enter Try.func3, Try.ntmps3
  go_upto_region 1 with (fail)
  have K := below_alloc w (.cells #[.int .u32 a, .int .i64 p, .slice A n c, .int .i64 sh, .int .i64 wo, .int .i64 qu, .int .i64 tr] 27)
  have H : Bk (World.alloc (w) (.cells #[.int .u32 a, .int .i64 p, .slice A n c, .int .i64 sh, .int .i64 wo, .int .i64 qu, .int .i64 tr] 27)) (World.heap (w)).size 27 (#[.int .u32 a, .int .i64 p, .slice A n c, .int .i64 sh, .int .i64 wo, .int .i64 qu, .int .i64 tr]) := Bk.new _ _ _
  replace H := H.alloc (.cells (opv ⟨A0, n0, c0, A1, n1, c1, A2, n2, c2, A3, n3, c3⟩ s) 38)
  replace K := Below.then_ K (below_alloc _ (.cells (opv ⟨A0, n0, c0, A1, n1, c1, A2, n2, c2, A3, n3, c3⟩ s) 38))
  have O : Bk (World.alloc ((w).alloc (.cells #[.int .u32 a, .int .i64 p, .slice A n c, .int .i64 sh, .int .i64 wo, .int .i64 qu, .int .i64 tr] 27)) (.cells (opv ⟨A0, n0, c0, A1, n1, c1, A2, n2, c2, A3, n3, c3⟩ s) 38)) (World.heap ((w).alloc (.cells #[.int .u32 a, .int .i64 p, .slice A n c, .int .i64 sh, .int .i64 wo, .int .i64 qu, .int .i64 tr] 27))).size 38 (opv ⟨A0, n0, c0, A1, n1, c1, A2, n2, c2, A3, n3, c3⟩ s) := Bk.new _ _ _
  try simp only [World.size_alloc] at H O
  generalize ((w).alloc (.cells #[.int .u32 a, .int .i64 p, .slice A n c, .int .i64 sh, .int .i64 wo, .int .i64 qu, .int .i64 tr] 27)).alloc (.cells (opv ⟨A0, n0, c0, A1, n1, c1, A2, n2, c2, A3, n3, c3⟩ s) 38) = w1 at H O K ⊢
  obtain ⟨gO, hgO⟩ : ∃ g, g = w.heap.size + 1 := ⟨_, rfl⟩
  rw [← hgO] at O ⊢
  obtain ⟨gH, hgH⟩ : ∃ g, g = w.heap.size := ⟨_, rfl⟩
  rw [← hgH] at H ⊢
  have H_b : w.heap.size ≤ gH := by omega
  have O_b : w.heap.size ≤ gO := by omega
  have ne_H_O : gH ≠ gO := by omega
  clear hgH hgO
  go_wp2_with fail
  refine (awake_any _).mono ?_
  rintro e w2 ⟨rfl, K'⟩
  replace H := H.below K'
  replace O := O.below K'
  replace K := Below.then_ K K'
  clear K'
  go_wp2_with (first | (refine wpList_load_want (by rfl) 27 (.tmp 5) rfl gH rfl _ _ (0, 0) _ H Try.underlying27 rfl cf_sz ?_))
  refine (fits_any ha (h0.below K)).mono ?_
  rintro e w3 ⟨bo, rfl, hB, K'⟩
  replace H := H.below K'
  replace O := O.below K'
  replace K := Below.then_ K K'
  clear K'
  rcases bo with _ | _
  · clear hB
    go_wp2_with fail
    refine (awake_any _).mono ?_
    rintro e w93 ⟨rfl, K'⟩
    replace K := Below.then_ K K'
    go_wp2
    go_ret
    exact ⟨rfl, K⟩
  replace hB := hB rfl
  obtain ⟨M, hMe⟩ : ∃ M, M = 2 ^ (32 - p.toNat) := ⟨_, rfl⟩
  unfold FitP at hB
  rw [← hMe] at hB
  clear hMe
  obtain ⟨hM, hm4, hmm⟩ := hB
  replace hmm := Lib.hid hmm
  go_wp2_with (first | (refine wpList_load_want (by rfl) 27 (.tmp 5) rfl gH rfl _ _ (0, 0) _ H Try.underlying27 rfl cf_sz ?_) | (refine wpList_load_want (by rfl) 38 (.tmp 7) rfl gO rfl _ _ (0, 0) _ O Try.underlying38 rfl op_sz ?_))
  refine (whole_any hM (hI.below K) hxs.out).mono ?_
  rintro e w4 ⟨bo, rfl, hB, K'⟩
  replace H := H.below K'
  replace O := O.below K'
  replace K := Below.then_ K K'
  clear K'
  rcases bo with _ | _
  · clear hB
    go_wp2_with fail
    refine (awake_any _).mono ?_
    rintro e w94 ⟨rfl, K'⟩
    replace K := Below.then_ K K'
    go_wp2
    go_ret
    exact ⟨rfl, K⟩
  replace hB := hB rfl
  obtain ⟨⟨q1, q2⟩, ⟨q3, q4⟩, ⟨q5, q6⟩, ⟨q7, q8, q9, q10⟩, hin⟩ := hB
  dsimp only at q7 q8 q9 q10 hin
  have N0 : n0 ≤ 65536 := by omega
  have N1 : n1 ≤ 65536 := by omega
  have N2 : n2 ≤ 65536 := by omega
  have N3 : n3 ≤ 65536 := by omega
  have O_13 := O.at_ (v := .int .u64 (s.word : Int)) 13 rfl
  have O_z := O.lt
  go_upto_region 7 with (first | ((with_reducible refine ((C0 _).out).mono ?_); rintro e w' ⟨rfl, rfl⟩) | ((with_reducible refine ((C1 _).out).mono ?_); rintro e w' ⟨rfl, rfl⟩))
  clear O_13 O_z
  refine wp_region_held_drew (S := fun w' => Below w.heap.size w w' ∧ Bk w' gH 27 (#[.int .u32 a, .int .i64 p, .slice A n c, .int .i64 sh, .int .i64 wo, .int .i64 qu, .int .i64 tr]) ∧ Bk w' gO 38 (opv ⟨A0, n0, c0, A1, n1, c1, A2, n2, c2, A3, n3, c3⟩ s) ∧ True) (by kernel_rfl) ⟨K.drew, H.below ((Below.refl _ _).drew), O.below ((Below.refl _ _).drew), trivial⟩ (fun hHeld => ?_)
  generalize w4.drew = v5 at hHeld ⊢
  refine wpAnyH_take (i := 0) (oi := ⟨some 58, _, _, _, _, _⟩) (v := ?_) rfl (by kernel_rfl) (by kernel_rfl) (by kernel_rfl) (fun _ _ _ h => h) (Or.inl ⟨by rfl, ?_⟩) hHeld ?_
  rotate_left
  · intro ww hSw
    try dsimp only at hSw
    go_simp
    try with_reducible rfl
    try omega
  try simp only [Act.put, List.setIfInBounds_toArray, List.set_cons_zero, List.set_cons_succ]
  refine wpAnyH_take (i := 1) (oi := ⟨some 59, _, _, _, _, _⟩) (v := ?_) rfl (by kernel_rfl) (by kernel_rfl) (by kernel_rfl) (fun _ _ _ h => h) (Or.inl ⟨by rfl, ?_⟩) hHeld ?_
  rotate_left
  · intro ww hSw
    try dsimp only at hSw
    go_simp
    try with_reducible rfl
    try omega
  try simp only [Act.put, List.setIfInBounds_toArray, List.set_cons_zero, List.set_cons_succ]
  refine wpAnyH_take (i := 2) (oi := ⟨some 60, _, _, _, _, _⟩) (v := .bool false) rfl (by kernel_rfl) (by kernel_rfl) (by kernel_rfl) (fun _ _ _ h => h) (Or.inl ⟨by rfl, ?_⟩) hHeld ?_
  · intro ww hSw
    try dsimp only at hSw
    go_simp
    try with_reducible rfl
    try omega
  try simp only [Act.put, List.setIfInBounds_toArray, List.set_cons_zero, List.set_cons_succ]
  refine wpAnyH_take (i := 3) (oi := ⟨some 61, _, _, _, _, _⟩) (v := .bool false) rfl (by kernel_rfl) (by kernel_rfl) (by kernel_rfl) (fun _ _ _ h => h) (Or.inl ⟨by rfl, ?_⟩) hHeld ?_
  · intro ww hSw
    try dsimp only at hSw
    go_simp
    try with_reducible rfl
    try omega
  try simp only [Act.put, List.setIfInBounds_toArray, List.set_cons_zero, List.set_cons_succ]
  refine wpAnyH_take (i := 4) (oi := ⟨some 62, _, _, _, _, _⟩) (v := ?_) rfl (by kernel_rfl) (by kernel_rfl) (by kernel_rfl) (fun _ _ _ h => h) (Or.inl ⟨by rfl, ?_⟩) hHeld ?_
  rotate_left
  · intro ww hSw
    try dsimp only at hSw
    go_simp
    try with_reducible rfl
    try omega
  try simp only [Act.put, List.setIfInBounds_toArray, List.set_cons_zero, List.set_cons_succ]
  refine wpAnyH_take (i := 5) (oi := ⟨some 63, _, _, _, _, _⟩) (v := ?_) rfl (by kernel_rfl) (by kernel_rfl) (by kernel_rfl) (fun _ _ _ h => h) (Or.inl ⟨by rfl, ?_⟩) hHeld ?_
  rotate_left
  · intro ww hSw
    try dsimp only at hSw
    go_simp
    try with_reducible rfl
    try omega
  try simp only [Act.put, List.setIfInBounds_toArray, List.set_cons_zero, List.set_cons_succ]
  refine wpAnyH_take (i := 6) (oi := ⟨some 64, _, _, _, _, _⟩) (v := .bool false) rfl (by kernel_rfl) (by kernel_rfl) (by kernel_rfl) (fun _ _ _ h => h) (Or.inl ⟨by rfl, ?_⟩) hHeld ?_
  · intro ww hSw
    try dsimp only at hSw
    go_simp
    try with_reducible rfl
    try omega
  try simp only [Act.put, List.setIfInBounds_toArray, List.set_cons_zero, List.set_cons_succ]
  refine wpAnyH_take (i := 7) (oi := ⟨some 65, _, _, _, _, _⟩) (v := .bool false) rfl (by kernel_rfl) (by kernel_rfl) (by kernel_rfl) (fun _ _ _ h => h) (Or.inl ⟨by rfl, ?_⟩) hHeld ?_
  · intro ww hSw
    try dsimp only at hSw
    go_simp
    try with_reducible rfl
    try omega
  try simp only [Act.put, List.setIfInBounds_toArray, List.set_cons_zero, List.set_cons_succ]
  refine wpAnyH_take (i := 8) (oi := ⟨some 66, _, _, _, _, _⟩) (v := .bool false) rfl (by kernel_rfl) (by kernel_rfl) (by kernel_rfl) (fun _ _ _ h => h) (Or.inl ⟨by rfl, ?_⟩) hHeld ?_
  · intro ww hSw
    try dsimp only at hSw
    go_simp
    try with_reducible rfl
    try omega
  try simp only [Act.put, List.setIfInBounds_toArray, List.set_cons_zero, List.set_cons_succ]
  refine wpAnyH_take (i := 9) (oi := ⟨some 67, _, _, _, _, _⟩) (v := .agg (#[.int .u32 a, .int .i64 p, .slice A n c, .int .i64 sh, .int .i64 wo, .int .i64 qu, .int .i64 tr])) rfl (by kernel_rfl) (by kernel_rfl) (by kernel_rfl) (fun _ _ _ h => h) (yieldsIf_load_row (by rfl) 27 (.tmp 5) rfl gH rfl 27 _ (0, 0) _ (fun _ hS => hS.2.1) Try.underlying27 rfl cf_sz) hHeld ?_
  try simp only [Act.put, List.setIfInBounds_toArray, List.set_cons_zero, List.set_cons_succ]
  refine wpAnyH_take (i := 10) (oi := ⟨some 68, _, _, _, _, _⟩) (v := .agg (opv ⟨A0, n0, c0, A1, n1, c1, A2, n2, c2, A3, n3, c3⟩ s)) rfl (by kernel_rfl) (by kernel_rfl) (by kernel_rfl) (fun _ _ _ h => h) (yieldsIf_load_row (by rfl) 38 (.tmp 7) rfl gO rfl 38 _ (0, 0) _ (fun _ hS => hS.2.2.1) Try.underlying38 rfl op_sz) hHeld ?_
  try simp only [Act.put, List.setIfInBounds_toArray, List.set_cons_zero, List.set_cons_succ]
  refine wpAnyH_take (i := 12) (oi := ⟨some 70, _, _, _, _, _⟩) (v := .agg (#[.int .u32 a, .int .i64 p, .slice A n c, .int .i64 sh, .int .i64 wo, .int .i64 qu, .int .i64 tr])) rfl (by kernel_rfl) (by kernel_rfl) (by kernel_rfl) (fun _ _ _ h => h) (yieldsIf_load_row (by rfl) 27 (.tmp 5) rfl gH rfl 27 _ (0, 0) _ (fun _ hS => hS.2.1) Try.underlying27 rfl cf_sz) hHeld ?_
  try simp only [Act.put, List.setIfInBounds_toArray, List.set_cons_zero, List.set_cons_succ]
  refine wpAnyH_take (i := 13) (oi := ⟨some 71, _, _, _, _, _⟩) (v := .agg (opv ⟨A0, n0, c0, A1, n1, c1, A2, n2, c2, A3, n3, c3⟩ s)) rfl (by kernel_rfl) (by kernel_rfl) (by kernel_rfl) (fun _ _ _ h => h) (yieldsIf_load_row (by rfl) 38 (.tmp 7) rfl gO rfl 38 _ (0, 0) _ (fun _ hS => hS.2.2.1) Try.underlying38 rfl op_sz) hHeld ?_
  try simp only [Act.put, List.setIfInBounds_toArray, List.set_cons_zero, List.set_cons_succ]
  refine wpAnyH_ready (rs := [11]) (by kernel_rfl) (by simp) ?_
  refine AllReadyH.cons (o := ⟨some 69, _, _, _, _, _⟩) rfl (fun K0 hK => ?_) AllReadyH.nil
  go_simp
  refine (goes_any (sh := sh) (wo := wo) (qu := qu) (tr := tr) (A := A) (n := n) (c := c) (s := s) ha hM (by show n0 ≤ 65536; omega) (hI.below hHeld.1) hin (L.below hHeld.1) (by show n1 ≤ 65536; omega) (by show n2 ≤ 65536; omega) (by show n3 ≤ 65536; omega)).mono ?_
  rintro e v6 ⟨A0', c0', A1', c1', A2', c2', A3', c3', rfl, L', K'⟩
  refine hK.out _ _ ⟨Below.then_ hHeld.1 K', hHeld.2.1.below K', hHeld.2.2.1.below K', trivial⟩ (fun hHeld' => ?_)
  clear hHeld K' hK K0
  have hHeld := hHeld'
  clear hHeld'
  try dsimp only
  refine wpAnyH_ready (rs := [14]) (by kernel_rfl) (by simp) ?_
  refine AllReadyH.cons (o := ⟨some 72, _, _, _, _, _⟩) rfl (fun K0 hK => ?_) AllReadyH.nil
  go_simp
  refine (rgoes_any (sh := sh) (wo := wo) (qu := qu) (tr := tr) (A := A) (n := n) (c := c) (s := s) ha hM (by show n0 ≤ 65536; omega) (hI.below hHeld.1) hin (by omega) (by omega)).mono ?_
  rintro e v7 ⟨rfl, K'⟩
  replace L' := L'.below K'
  refine hK.out _ _ ⟨Below.then_ hHeld.1 K', hHeld.2.1.below K', hHeld.2.2.1.below K', trivial⟩ (fun hHeld' => ?_)
  clear hHeld K' hK K0
  have hHeld := hHeld'
  clear hHeld'
  try dsimp only
  refine wpAnyH_ready (rs := [15]) (by kernel_rfl) (by simp) ?_
  refine AllReadyH.cons (o := ⟨some 73, _, _, _, _, _⟩) rfl (fun K0 hK => ?_) AllReadyH.nil
  go_simp
  refine (sameop_any ((L'.asked hx.out).lower (Nat.zero_le _)) (hI.below hHeld.1) L' (L.below hHeld.1) hf.out N0 N1 N2 N3).mono ?_
  rintro e v8 ⟨rfl, K'⟩
  clear L'
  refine hK.out _ _ ⟨Below.then_ hHeld.1 K', hHeld.2.1.below K', hHeld.2.2.1.below K', trivial⟩ (fun hHeld' => ?_)
  clear hHeld K' hK K0
  have hHeld := hHeld'
  clear hHeld'
  try simp only [Act.put, List.setIfInBounds_toArray, List.set_cons_zero, List.set_cons_succ]
  refine wpAnyH_take (i := 16) (oi := ⟨some 74, _, _, _, _, _⟩) (v := .bool false) rfl (by kernel_rfl) (by kernel_rfl) (by kernel_rfl) (fun _ _ _ h => h) (Or.inl ⟨by rfl, ?_⟩) hHeld ?_
  · intro ww hSw
    try dsimp only at hSw
    go_simp
    try with_reducible rfl
    try omega
  try simp only [Act.put, List.setIfInBounds_toArray, List.set_cons_zero, List.set_cons_succ]
  refine wpAnyH_take (i := 17) (oi := ⟨some 75, _, _, _, _, _⟩) (v := .bool false) rfl (by kernel_rfl) (by kernel_rfl) (by kernel_rfl) (fun _ _ _ h => h) (Or.inl ⟨by rfl, ?_⟩) hHeld ?_
  · intro ww hSw
    try dsimp only at hSw
    go_simp
    try with_reducible rfl
    try omega
  try simp only [Act.put, List.setIfInBounds_toArray, List.set_cons_zero, List.set_cons_succ]
  refine wpAnyH_done (by kernel_rfl) ?_ _
  replace K := hHeld.1
  replace H := hHeld.2.1
  replace O := hHeld.2.2.1
  clear hHeld
  have O_8 := O.at_ (v := .int .i64 s.phase) 8 rfl
  have O_z := O.lt
  go_wp2
  go_ret
  exact ⟨rfl, K⟩
set_option maxRecDepth 100000 in
set_option maxHeartbeats 1000000 in
theorem mark (ha : a < 4294967296) (h0 : IS .i64 lo w A n c zs) (hU : US w B m d ys) (hI : IS .u32 0 w h.A0 h.n0 h.c0 xs) (hxs : ∀ j, j < h.n0 → ∃ x : Nat, gi xs j = (x : Int) ∧ x < 4294967296) (L : Lists 0 w h l) (hf : ∀ x ∈ l.ses, (Lit.int .u64 x).wf = true) (hw : s.word < 18446744073709551616) (hF : (F : Int) % 65 = (f : Nat)) (hT : (T : Int) % 65 = (t : Nat)) (hF2 : F < 256) (hT2 : T < 256) (hf1 : f ≤ 64) (ht1 : t ≤ 64) (hph : s.phase = 4) :
    Calls Try.prog 3 #[.agg #[.int .u32 a, .int .i64 p, .slice A n c, .int .i64 sh, .int .i64 wo, .int .i64 qu, .int .i64 tr], .slice B m d, .agg (opv h s), .int .u8 F, .int .u8 T] w (RetBo true w) := by
  replace hxs := Lib.hid hxs
  replace hf := Lib.hid hf
  have hx := Lib.hid (L.i0.uniq hI)
  have C0 := fun w => Lib.hid (find_any s.word f t hw hf1 ht1 w)
  have C1 := fun w => Lib.hid (rfind_any s.word f t hw hf1 ht1 w)
  generalize fi (fl_ s.word f) t = u at C0 C1
  generalize fb (fl_ s.word f) t = v at C0 C1
  have f1 : ((u : Int) != (u : Int)) = false := by simp
  have f2 : (v != v) = false := by simp
  have hp := Lib.hid hph
  clear hph
  rcases h with ⟨A0, n0, c0, A1, n1, c1, A2, n2, c2, A3, n3, c3⟩
  dsimp only at *
  go_enter Try.func3, Try.ntmps3
  go_upto_region 1 with (fail)
  have K := below_alloc w (.cells #[.int .u32 a, .int .i64 p, .slice A n c, .int .i64 sh, .int .i64 wo, .int .i64 qu, .int .i64 tr] 27)
  have H : Bk (World.alloc (w) (.cells #[.int .u32 a, .int .i64 p, .slice A n c, .int .i64 sh, .int .i64 wo, .int .i64 qu, .int .i64 tr] 27)) (World.heap (w)).size 27 (#[.int .u32 a, .int .i64 p, .slice A n c, .int .i64 sh, .int .i64 wo, .int .i64 qu, .int .i64 tr]) := Bk.new _ _ _
  replace H := H.alloc (.cells (opv ⟨A0, n0, c0, A1, n1, c1, A2, n2, c2, A3, n3, c3⟩ s) 38)
  replace K := Below.then_ K (below_alloc _ (.cells (opv ⟨A0, n0, c0, A1, n1, c1, A2, n2, c2, A3, n3, c3⟩ s) 38))
  have O : Bk (World.alloc ((w).alloc (.cells #[.int .u32 a, .int .i64 p, .slice A n c, .int .i64 sh, .int .i64 wo, .int .i64 qu, .int .i64 tr] 27)) (.cells (opv ⟨A0, n0, c0, A1, n1, c1, A2, n2, c2, A3, n3, c3⟩ s) 38)) (World.heap ((w).alloc (.cells #[.int .u32 a, .int .i64 p, .slice A n c, .int .i64 sh, .int .i64 wo, .int .i64 qu, .int .i64 tr] 27))).size 38 (opv ⟨A0, n0, c0, A1, n1, c1, A2, n2, c2, A3, n3, c3⟩ s) := Bk.new _ _ _
  try simp only [World.size_alloc] at H O
  generalize ((w).alloc (.cells #[.int .u32 a, .int .i64 p, .slice A n c, .int .i64 sh, .int .i64 wo, .int .i64 qu, .int .i64 tr] 27)).alloc (.cells (opv ⟨A0, n0, c0, A1, n1, c1, A2, n2, c2, A3, n3, c3⟩ s) 38) = w1 at H O K ⊢
  obtain ⟨gO, hgO⟩ : ∃ g, g = w.heap.size + 1 := ⟨_, rfl⟩
  rw [← hgO] at O ⊢
  obtain ⟨gH, hgH⟩ : ∃ g, g = w.heap.size := ⟨_, rfl⟩
  rw [← hgH] at H ⊢
  have H_b : w.heap.size ≤ gH := by omega
  have O_b : w.heap.size ≤ gO := by omega
  have ne_H_O : gH ≠ gO := by omega
  clear hgH hgO
  go_wp2_with fail
  refine (awake_any _).mono ?_
  rintro e w2 ⟨rfl, K'⟩
  replace H := H.below K'
  replace O := O.below K'
  replace K := Below.then_ K K'
  clear K'
  go_wp2_with (first | (refine wpList_load_want (by rfl) 27 (.tmp 5) rfl gH rfl _ _ (0, 0) _ H Try.underlying27 rfl cf_sz ?_))
  refine (fits_any ha (h0.below K)).mono ?_
  rintro e w3 ⟨bo, rfl, hB, K'⟩
  replace H := H.below K'
  replace O := O.below K'
  replace K := Below.then_ K K'
  clear K'
  rcases bo with _ | _
  · clear hB
    go_wp2_with fail
    refine (awake_any _).mono ?_
    rintro e w93 ⟨rfl, K'⟩
    replace K := Below.then_ K K'
    go_wp2
    go_ret
    exact ⟨rfl, K⟩
  replace hB := hB rfl
  obtain ⟨M, hMe⟩ : ∃ M, M = 2 ^ (32 - p.toNat) := ⟨_, rfl⟩
  unfold FitP at hB
  rw [← hMe] at hB
  clear hMe
  obtain ⟨hM, hm4, hmm⟩ := hB
  replace hmm := Lib.hid hmm
  go_wp2_with (first | (refine wpList_load_want (by rfl) 27 (.tmp 5) rfl gH rfl _ _ (0, 0) _ H Try.underlying27 rfl cf_sz ?_) | (refine wpList_load_want (by rfl) 38 (.tmp 7) rfl gO rfl _ _ (0, 0) _ O Try.underlying38 rfl op_sz ?_))
  refine (whole_any hM (hI.below K) hxs.out).mono ?_
  rintro e w4 ⟨bo, rfl, hB, K'⟩
  replace H := H.below K'
  replace O := O.below K'
  replace K := Below.then_ K K'
  clear K'
  rcases bo with _ | _
  · clear hB
    go_wp2_with fail
    refine (awake_any _).mono ?_
    rintro e w94 ⟨rfl, K'⟩
    replace K := Below.then_ K K'
    go_wp2
    go_ret
    exact ⟨rfl, K⟩
  replace hB := hB rfl
  obtain ⟨⟨q1, q2⟩, ⟨q3, q4⟩, ⟨q5, q6⟩, ⟨q7, q8, q9, q10⟩, hin⟩ := hB
  dsimp only at q7 q8 q9 q10 hin
  have N0 : n0 ≤ 65536 := by omega
  have N1 : n1 ≤ 65536 := by omega
  have N2 : n2 ≤ 65536 := by omega
  have N3 : n3 ≤ 65536 := by omega
  have O_13 := O.at_ (v := .int .u64 (s.word : Int)) 13 rfl
  have O_z := O.lt
  go_upto_region 7 with (first | ((with_reducible refine ((C0 _).out).mono ?_); rintro e w' ⟨rfl, rfl⟩) | ((with_reducible refine ((C1 _).out).mono ?_); rintro e w' ⟨rfl, rfl⟩))
  clear O_13 O_z
  refine wp_region_held_drew (S := fun w' => Below w.heap.size w w' ∧ Bk w' gH 27 (#[.int .u32 a, .int .i64 p, .slice A n c, .int .i64 sh, .int .i64 wo, .int .i64 qu, .int .i64 tr]) ∧ Bk w' gO 38 (opv ⟨A0, n0, c0, A1, n1, c1, A2, n2, c2, A3, n3, c3⟩ s) ∧ True) (by kernel_rfl) ⟨K.drew, H.below ((Below.refl _ _).drew), O.below ((Below.refl _ _).drew), trivial⟩ (fun hHeld => ?_)
  generalize w4.drew = v5 at hHeld ⊢
  refine wpAnyH_take (i := 0) (oi := ⟨some 58, _, _, _, _, _⟩) (v := ?_) rfl (by kernel_rfl) (by kernel_rfl) (by kernel_rfl) (fun _ _ _ h => h) (Or.inl ⟨by rfl, ?_⟩) hHeld ?_
  rotate_left
  · intro ww hSw
    try dsimp only at hSw
    go_simp
    try with_reducible rfl
    try omega
  try simp only [Act.put, List.setIfInBounds_toArray, List.set_cons_zero, List.set_cons_succ]
  refine wpAnyH_take (i := 1) (oi := ⟨some 59, _, _, _, _, _⟩) (v := ?_) rfl (by kernel_rfl) (by kernel_rfl) (by kernel_rfl) (fun _ _ _ h => h) (Or.inl ⟨by rfl, ?_⟩) hHeld ?_
  rotate_left
  · intro ww hSw
    try dsimp only at hSw
    go_simp
    try with_reducible rfl
    try omega
  try simp only [Act.put, List.setIfInBounds_toArray, List.set_cons_zero, List.set_cons_succ]
  refine wpAnyH_take (i := 2) (oi := ⟨some 60, _, _, _, _, _⟩) (v := .bool false) rfl (by kernel_rfl) (by kernel_rfl) (by kernel_rfl) (fun _ _ _ h => h) (Or.inl ⟨by rfl, ?_⟩) hHeld ?_
  · intro ww hSw
    try dsimp only at hSw
    go_simp
    try with_reducible rfl
    try omega
  try simp only [Act.put, List.setIfInBounds_toArray, List.set_cons_zero, List.set_cons_succ]
  refine wpAnyH_take (i := 3) (oi := ⟨some 61, _, _, _, _, _⟩) (v := .bool false) rfl (by kernel_rfl) (by kernel_rfl) (by kernel_rfl) (fun _ _ _ h => h) (Or.inl ⟨by rfl, ?_⟩) hHeld ?_
  · intro ww hSw
    try dsimp only at hSw
    go_simp
    try with_reducible rfl
    try omega
  try simp only [Act.put, List.setIfInBounds_toArray, List.set_cons_zero, List.set_cons_succ]
  refine wpAnyH_take (i := 4) (oi := ⟨some 62, _, _, _, _, _⟩) (v := ?_) rfl (by kernel_rfl) (by kernel_rfl) (by kernel_rfl) (fun _ _ _ h => h) (Or.inl ⟨by rfl, ?_⟩) hHeld ?_
  rotate_left
  · intro ww hSw
    try dsimp only at hSw
    go_simp
    try with_reducible rfl
    try omega
  try simp only [Act.put, List.setIfInBounds_toArray, List.set_cons_zero, List.set_cons_succ]
  refine wpAnyH_take (i := 5) (oi := ⟨some 63, _, _, _, _, _⟩) (v := ?_) rfl (by kernel_rfl) (by kernel_rfl) (by kernel_rfl) (fun _ _ _ h => h) (Or.inl ⟨by rfl, ?_⟩) hHeld ?_
  rotate_left
  · intro ww hSw
    try dsimp only at hSw
    go_simp
    try with_reducible rfl
    try omega
  try simp only [Act.put, List.setIfInBounds_toArray, List.set_cons_zero, List.set_cons_succ]
  refine wpAnyH_take (i := 6) (oi := ⟨some 64, _, _, _, _, _⟩) (v := .bool false) rfl (by kernel_rfl) (by kernel_rfl) (by kernel_rfl) (fun _ _ _ h => h) (Or.inl ⟨by rfl, ?_⟩) hHeld ?_
  · intro ww hSw
    try dsimp only at hSw
    go_simp
    try with_reducible rfl
    try omega
  try simp only [Act.put, List.setIfInBounds_toArray, List.set_cons_zero, List.set_cons_succ]
  refine wpAnyH_take (i := 7) (oi := ⟨some 65, _, _, _, _, _⟩) (v := .bool false) rfl (by kernel_rfl) (by kernel_rfl) (by kernel_rfl) (fun _ _ _ h => h) (Or.inl ⟨by rfl, ?_⟩) hHeld ?_
  · intro ww hSw
    try dsimp only at hSw
    go_simp
    try with_reducible rfl
    try omega
  try simp only [Act.put, List.setIfInBounds_toArray, List.set_cons_zero, List.set_cons_succ]
  refine wpAnyH_take (i := 8) (oi := ⟨some 66, _, _, _, _, _⟩) (v := .bool false) rfl (by kernel_rfl) (by kernel_rfl) (by kernel_rfl) (fun _ _ _ h => h) (Or.inl ⟨by rfl, ?_⟩) hHeld ?_
  · intro ww hSw
    try dsimp only at hSw
    go_simp
    try with_reducible rfl
    try omega
  try simp only [Act.put, List.setIfInBounds_toArray, List.set_cons_zero, List.set_cons_succ]
  refine wpAnyH_take (i := 9) (oi := ⟨some 67, _, _, _, _, _⟩) (v := .agg (#[.int .u32 a, .int .i64 p, .slice A n c, .int .i64 sh, .int .i64 wo, .int .i64 qu, .int .i64 tr])) rfl (by kernel_rfl) (by kernel_rfl) (by kernel_rfl) (fun _ _ _ h => h) (yieldsIf_load_row (by rfl) 27 (.tmp 5) rfl gH rfl 27 _ (0, 0) _ (fun _ hS => hS.2.1) Try.underlying27 rfl cf_sz) hHeld ?_
  try simp only [Act.put, List.setIfInBounds_toArray, List.set_cons_zero, List.set_cons_succ]
  refine wpAnyH_take (i := 10) (oi := ⟨some 68, _, _, _, _, _⟩) (v := .agg (opv ⟨A0, n0, c0, A1, n1, c1, A2, n2, c2, A3, n3, c3⟩ s)) rfl (by kernel_rfl) (by kernel_rfl) (by kernel_rfl) (fun _ _ _ h => h) (yieldsIf_load_row (by rfl) 38 (.tmp 7) rfl gO rfl 38 _ (0, 0) _ (fun _ hS => hS.2.2.1) Try.underlying38 rfl op_sz) hHeld ?_
  try simp only [Act.put, List.setIfInBounds_toArray, List.set_cons_zero, List.set_cons_succ]
  refine wpAnyH_take (i := 12) (oi := ⟨some 70, _, _, _, _, _⟩) (v := .agg (#[.int .u32 a, .int .i64 p, .slice A n c, .int .i64 sh, .int .i64 wo, .int .i64 qu, .int .i64 tr])) rfl (by kernel_rfl) (by kernel_rfl) (by kernel_rfl) (fun _ _ _ h => h) (yieldsIf_load_row (by rfl) 27 (.tmp 5) rfl gH rfl 27 _ (0, 0) _ (fun _ hS => hS.2.1) Try.underlying27 rfl cf_sz) hHeld ?_
  try simp only [Act.put, List.setIfInBounds_toArray, List.set_cons_zero, List.set_cons_succ]
  refine wpAnyH_take (i := 13) (oi := ⟨some 71, _, _, _, _, _⟩) (v := .agg (opv ⟨A0, n0, c0, A1, n1, c1, A2, n2, c2, A3, n3, c3⟩ s)) rfl (by kernel_rfl) (by kernel_rfl) (by kernel_rfl) (fun _ _ _ h => h) (yieldsIf_load_row (by rfl) 38 (.tmp 7) rfl gO rfl 38 _ (0, 0) _ (fun _ hS => hS.2.2.1) Try.underlying38 rfl op_sz) hHeld ?_
  try simp only [Act.put, List.setIfInBounds_toArray, List.set_cons_zero, List.set_cons_succ]
  refine wpAnyH_ready (rs := [11]) (by kernel_rfl) (by simp) ?_
  refine AllReadyH.cons (o := ⟨some 69, _, _, _, _, _⟩) rfl (fun K0 hK => ?_) AllReadyH.nil
  go_simp
  refine (goes_any (sh := sh) (wo := wo) (qu := qu) (tr := tr) (A := A) (n := n) (c := c) (s := s) ha hM (by show n0 ≤ 65536; omega) (hI.below hHeld.1) hin (L.below hHeld.1) (by show n1 ≤ 65536; omega) (by show n2 ≤ 65536; omega) (by show n3 ≤ 65536; omega)).mono ?_
  rintro e v6 ⟨A0', c0', A1', c1', A2', c2', A3', c3', rfl, L', K'⟩
  refine hK.out _ _ ⟨Below.then_ hHeld.1 K', hHeld.2.1.below K', hHeld.2.2.1.below K', trivial⟩ (fun hHeld' => ?_)
  clear hHeld K' hK K0
  have hHeld := hHeld'
  clear hHeld'
  try dsimp only
  refine wpAnyH_ready (rs := [14]) (by kernel_rfl) (by simp) ?_
  refine AllReadyH.cons (o := ⟨some 72, _, _, _, _, _⟩) rfl (fun K0 hK => ?_) AllReadyH.nil
  go_simp
  refine (rgoes_any (sh := sh) (wo := wo) (qu := qu) (tr := tr) (A := A) (n := n) (c := c) (s := s) ha hM (by show n0 ≤ 65536; omega) (hI.below hHeld.1) hin (by omega) (by omega)).mono ?_
  rintro e v7 ⟨rfl, K'⟩
  replace L' := L'.below K'
  refine hK.out _ _ ⟨Below.then_ hHeld.1 K', hHeld.2.1.below K', hHeld.2.2.1.below K', trivial⟩ (fun hHeld' => ?_)
  clear hHeld K' hK K0
  have hHeld := hHeld'
  clear hHeld'
  try dsimp only
  refine wpAnyH_ready (rs := [15]) (by kernel_rfl) (by simp) ?_
  refine AllReadyH.cons (o := ⟨some 73, _, _, _, _, _⟩) rfl (fun K0 hK => ?_) AllReadyH.nil
  go_simp
  refine (sameop_any ((L'.asked hx.out).lower (Nat.zero_le _)) (hI.below hHeld.1) L' (L.below hHeld.1) hf.out N0 N1 N2 N3).mono ?_
  rintro e v8 ⟨rfl, K'⟩
  clear L'
  refine hK.out _ _ ⟨Below.then_ hHeld.1 K', hHeld.2.1.below K', hHeld.2.2.1.below K', trivial⟩ (fun hHeld' => ?_)
  clear hHeld K' hK K0
  have hHeld := hHeld'
  clear hHeld'
  try simp only [Act.put, List.setIfInBounds_toArray, List.set_cons_zero, List.set_cons_succ]
  refine wpAnyH_take (i := 16) (oi := ⟨some 74, _, _, _, _, _⟩) (v := .bool false) rfl (by kernel_rfl) (by kernel_rfl) (by kernel_rfl) (fun _ _ _ h => h) (Or.inl ⟨by rfl, ?_⟩) hHeld ?_
  · intro ww hSw
    try dsimp only at hSw
    go_simp
    try with_reducible rfl
    try omega
  try simp only [Act.put, List.setIfInBounds_toArray, List.set_cons_zero, List.set_cons_succ]
  refine wpAnyH_take (i := 17) (oi := ⟨some 75, _, _, _, _, _⟩) (v := .bool false) rfl (by kernel_rfl) (by kernel_rfl) (by kernel_rfl) (fun _ _ _ h => h) (Or.inl ⟨by rfl, ?_⟩) hHeld ?_
  · intro ww hSw
    try dsimp only at hSw
    go_simp
    try with_reducible rfl
    try omega
  try simp only [Act.put, List.setIfInBounds_toArray, List.set_cons_zero, List.set_cons_succ]
  refine wpAnyH_done (by kernel_rfl) ?_ _
  replace K := hHeld.1
  replace H := hHeld.2.1
  replace O := hHeld.2.2.1
  clear hHeld
  have O_8 : v8.cell? ⟨gO, 8, none⟩ = some (.int .i64 4) := (O.at_ (v := .int .i64 s.phase) 8 rfl).trans (by rw [hp.out])
  have O_z := O.lt
  go_upto_region 11 with (fail)
  clear O_8 O_z
  obtain ⟨lf, hlf⟩ : ∃ lf : Nat, s.leaf = (lf : Int) := ⟨s.leaf.toNat, by omega⟩
  have hlv : lf < lv M := by omega
  replace hlf := Lib.hid hlf
  have hm6 : m ≤ 65536 := (stepb hM.most hlv hmm.out).1
  go_wp2_with (first | (refine wpList_load_row rfl 27 (.tmp 5) rfl gH rfl _ _ (0, 0) _ H Try.underlying27 rfl cf_sz ?_) | (refine wpList_load_row rfl 38 (.tmp 7) rfl gO rfl _ _ (0, 0) _ O Try.underlying38 rfl op_sz ?_))
  refine (step_any (lf := lf) ha hM (by show n0 ≤ 65536; omega) (hI.below K) hin (L.below K) (by show n1 ≤ 65536; omega) (by show n2 ≤ 65536; omega) (by show n3 ≤ 65536; omega) (hU.below K) hmm.out hlf.out hlv (by omega) (by have := hp.out; omega) hw).mono ?_
  rintro e w9 ⟨A0', c0', A1', c1', A2', c2', A3', c3', B1, d1, rfl, U1, L1, _, K'⟩
  replace H := H.below K'
  replace O := O.below K'
  replace K := Below.then_ K K'
  clear K'
  have H_lt := H.lt
  have O_lt := O.lt
  have KS := K.size
  go_upto_region 12 with (refine wpList_store_row rfl 38 (.tmp 18) (.tmp 90) rfl _ _ rfl rfl _ _ (Bk.new _ _ _) op_sz rfl (opv_one _ _) ?_)
  rw [World.setRow_alloc_new]
  replace H := H.alloc (.cells (opv ⟨A0', n0, c0', A1', n1, c1', A2', n2, c2', A3', n3, c3'⟩ (stO a M n0 xs ys s)) 38)
  replace O := O.alloc (.cells (opv ⟨A0', n0, c0', A1', n1, c1', A2', n2, c2', A3', n3, c3'⟩ (stO a M n0 xs ys s)) 38)
  replace U1 := U1.below (below_alloc _ (.cells (opv ⟨A0', n0, c0', A1', n1, c1', A2', n2, c2', A3', n3, c3'⟩ (stO a M n0 xs ys s)) 38))
  replace L1 := L1.below (below_alloc _ (.cells (opv ⟨A0', n0, c0', A1', n1, c1', A2', n2, c2', A3', n3, c3'⟩ (stO a M n0 xs ys s)) 38))
  replace K := Below.then_ K (below_alloc _ (.cells (opv ⟨A0', n0, c0', A1', n1, c1', A2', n2, c2', A3', n3, c3'⟩ (stO a M n0 xs ys s)) 38))
  have X : Bk (World.alloc (w9) (.cells (opv ⟨A0', n0, c0', A1', n1, c1', A2', n2, c2', A3', n3, c3'⟩ (stO a M n0 xs ys s)) 38)) (World.heap (w9)).size 38 (opv ⟨A0', n0, c0', A1', n1, c1', A2', n2, c2', A3', n3, c3'⟩ (stO a M n0 xs ys s)) := Bk.new _ _ _
  try simp only [World.size_alloc] at X
  generalize (w9).alloc (.cells (opv ⟨A0', n0, c0', A1', n1, c1', A2', n2, c2', A3', n3, c3'⟩ (stO a M n0 xs ys s)) 38) = w10 at H O X U1 L1 K ⊢
  obtain ⟨gX, hgX⟩ : ∃ g, g = w9.heap.size := ⟨_, rfl⟩
  rw [← hgX] at X ⊢
  have X_b : w.heap.size ≤ gX := by have := KS; omega
  have ne_H_X : gH ≠ gX := by have := H_lt; omega
  have ne_O_X : gO ≠ gX := by have := O_lt; omega
  clear hgX
  clear H_lt O_lt KS
  go_wp2_with (first | (refine wpList_load_row rfl 27 (.tmp 5) rfl gH rfl _ _ (0, 0) _ H Try.underlying27 rfl cf_sz ?_) | (refine wpList_load_row rfl 38 (.tmp 7) rfl gO rfl _ _ (0, 0) _ O Try.underlying38 rfl op_sz ?_))
  refine (rstep_any (lf := lf) ha hM (by show n0 ≤ 65536; omega) (hI.below K) hin (hU.below K) hmm.out hlf.out hlv (by omega) (by have := hp.out; omega) hw (by omega) (by omega)).mono ?_
  rintro e w11 ⟨B2, d2, rfl, U2, K'⟩
  replace H := H.below K'
  replace O := O.below K'
  replace X := X.below K'
  replace U1 := U1.below K'
  replace L1 := L1.below K'
  replace K := Below.then_ K K'
  clear K'
  have H_lt := H.lt
  have O_lt := O.lt
  have X_lt := X.lt
  have KS := K.size
  go_upto_region 13 with (refine wpList_store_row rfl 38 (.tmp 20) (.tmp 97) rfl _ _ rfl rfl _ _ (Bk.new _ _ _) op_sz rfl (opv_one _ _) ?_)
  rw [World.setRow_alloc_new]
  replace H := H.alloc (.cells (opv ⟨A0, n0, c0, A1, n1, c1, A2, n2, c2, A3, n3, c3⟩ (stO a M n0 xs ys s)) 38)
  replace O := O.alloc (.cells (opv ⟨A0, n0, c0, A1, n1, c1, A2, n2, c2, A3, n3, c3⟩ (stO a M n0 xs ys s)) 38)
  replace X := X.alloc (.cells (opv ⟨A0, n0, c0, A1, n1, c1, A2, n2, c2, A3, n3, c3⟩ (stO a M n0 xs ys s)) 38)
  replace U1 := U1.below (below_alloc _ (.cells (opv ⟨A0, n0, c0, A1, n1, c1, A2, n2, c2, A3, n3, c3⟩ (stO a M n0 xs ys s)) 38))
  replace L1 := L1.below (below_alloc _ (.cells (opv ⟨A0, n0, c0, A1, n1, c1, A2, n2, c2, A3, n3, c3⟩ (stO a M n0 xs ys s)) 38))
  replace U2 := U2.below (below_alloc _ (.cells (opv ⟨A0, n0, c0, A1, n1, c1, A2, n2, c2, A3, n3, c3⟩ (stO a M n0 xs ys s)) 38))
  replace K := Below.then_ K (below_alloc _ (.cells (opv ⟨A0, n0, c0, A1, n1, c1, A2, n2, c2, A3, n3, c3⟩ (stO a M n0 xs ys s)) 38))
  have Y : Bk (World.alloc (w11) (.cells (opv ⟨A0, n0, c0, A1, n1, c1, A2, n2, c2, A3, n3, c3⟩ (stO a M n0 xs ys s)) 38)) (World.heap (w11)).size 38 (opv ⟨A0, n0, c0, A1, n1, c1, A2, n2, c2, A3, n3, c3⟩ (stO a M n0 xs ys s)) := Bk.new _ _ _
  try simp only [World.size_alloc] at Y
  generalize (w11).alloc (.cells (opv ⟨A0, n0, c0, A1, n1, c1, A2, n2, c2, A3, n3, c3⟩ (stO a M n0 xs ys s)) 38) = w12 at H O X Y U1 L1 U2 K ⊢
  obtain ⟨gY, hgY⟩ : ∃ g, g = w11.heap.size := ⟨_, rfl⟩
  rw [← hgY] at Y ⊢
  have Y_b : w.heap.size ≤ gY := by have := KS; omega
  have ne_H_Y : gH ≠ gY := by have := H_lt; omega
  have ne_O_Y : gO ≠ gY := by have := O_lt; omega
  have ne_X_Y : gX ≠ gY := by have := X_lt; omega
  clear hgY
  clear H_lt O_lt X_lt KS
  go_wp2_with fail
  refine (same_any U1 U2 hm6).mono ?_
  rintro e w13 ⟨rfl, K'⟩
  replace H := H.below K'
  replace O := O.below K'
  replace X := X.below K'
  replace Y := Y.below K'
  replace U1 := U1.below K'
  replace L1 := L1.below K'
  replace U2 := U2.below K'
  replace K := Below.then_ K K'
  clear K'
  go_wp2_with (first | (refine wpList_load_want (by rfl) 38 (.tmp 18) rfl gX rfl _ _ (0, 0) _ X Try.underlying38 rfl op_sz ?_) | (refine wpList_load_want (by rfl) 38 (.tmp 20) rfl gY rfl _ _ (0, 0) _ Y Try.underlying38 rfl op_sz ?_))
  refine (sameop_any ((L1.asked hx.out).lower (Nat.zero_le _)) (hI.below K) L1 (L.below K) hf.out N0 N1 N2 N3).mono ?_
  rintro e w14 ⟨rfl, K'⟩
  replace H := H.below K'
  replace O := O.below K'
  replace X := X.below K'
  replace Y := Y.below K'
  replace U1 := U1.below K'
  replace L1 := L1.below K'
  replace U2 := U2.below K'
  replace K := Below.then_ K K'
  clear K'
  go_wp2
  go_ret
  exact ⟨rfl, K⟩
set_option maxRecDepth 100000 in
set_option maxHeartbeats 1000000 in
theorem set_ (ha : a < 4294967296) (h0 : IS .i64 lo w A n c zs) (hU : US w B m d ys) (hI : IS .u32 0 w h.A0 h.n0 h.c0 xs) (hxs : ∀ j, j < h.n0 → ∃ x : Nat, gi xs j = (x : Int) ∧ x < 4294967296) (L : Lists 0 w h l) (hf : ∀ x ∈ l.ses, (Lit.int .u64 x).wf = true) (hw : s.word < 18446744073709551616) (hF : (F : Int) % 65 = (f : Nat)) (hT : (T : Int) % 65 = (t : Nat)) (hF2 : F < 256) (hT2 : T < 256) (hf1 : f ≤ 64) (ht1 : t ≤ 64) (hph : s.phase = 5) :
    Calls Try.prog 3 #[.agg #[.int .u32 a, .int .i64 p, .slice A n c, .int .i64 sh, .int .i64 wo, .int .i64 qu, .int .i64 tr], .slice B m d, .agg (opv h s), .int .u8 F, .int .u8 T] w (RetBo true w) := by
  replace hxs := Lib.hid hxs
  replace hf := Lib.hid hf
  have hx := Lib.hid (L.i0.uniq hI)
  have C0 := fun w => Lib.hid (find_any s.word f t hw hf1 ht1 w)
  have C1 := fun w => Lib.hid (rfind_any s.word f t hw hf1 ht1 w)
  generalize fi (fl_ s.word f) t = u at C0 C1
  generalize fb (fl_ s.word f) t = v at C0 C1
  have f1 : ((u : Int) != (u : Int)) = false := by simp
  have f2 : (v != v) = false := by simp
  have hp := Lib.hid hph
  clear hph
  rcases h with ⟨A0, n0, c0, A1, n1, c1, A2, n2, c2, A3, n3, c3⟩
  dsimp only at *
  go_enter Try.func3, Try.ntmps3
  go_upto_region 1 with (fail)
  have K := below_alloc w (.cells #[.int .u32 a, .int .i64 p, .slice A n c, .int .i64 sh, .int .i64 wo, .int .i64 qu, .int .i64 tr] 27)
  have H : Bk (World.alloc (w) (.cells #[.int .u32 a, .int .i64 p, .slice A n c, .int .i64 sh, .int .i64 wo, .int .i64 qu, .int .i64 tr] 27)) (World.heap (w)).size 27 (#[.int .u32 a, .int .i64 p, .slice A n c, .int .i64 sh, .int .i64 wo, .int .i64 qu, .int .i64 tr]) := Bk.new _ _ _
  replace H := H.alloc (.cells (opv ⟨A0, n0, c0, A1, n1, c1, A2, n2, c2, A3, n3, c3⟩ s) 38)
  replace K := Below.then_ K (below_alloc _ (.cells (opv ⟨A0, n0, c0, A1, n1, c1, A2, n2, c2, A3, n3, c3⟩ s) 38))
  have O : Bk (World.alloc ((w).alloc (.cells #[.int .u32 a, .int .i64 p, .slice A n c, .int .i64 sh, .int .i64 wo, .int .i64 qu, .int .i64 tr] 27)) (.cells (opv ⟨A0, n0, c0, A1, n1, c1, A2, n2, c2, A3, n3, c3⟩ s) 38)) (World.heap ((w).alloc (.cells #[.int .u32 a, .int .i64 p, .slice A n c, .int .i64 sh, .int .i64 wo, .int .i64 qu, .int .i64 tr] 27))).size 38 (opv ⟨A0, n0, c0, A1, n1, c1, A2, n2, c2, A3, n3, c3⟩ s) := Bk.new _ _ _
  try simp only [World.size_alloc] at H O
  generalize ((w).alloc (.cells #[.int .u32 a, .int .i64 p, .slice A n c, .int .i64 sh, .int .i64 wo, .int .i64 qu, .int .i64 tr] 27)).alloc (.cells (opv ⟨A0, n0, c0, A1, n1, c1, A2, n2, c2, A3, n3, c3⟩ s) 38) = w1 at H O K ⊢
  obtain ⟨gO, hgO⟩ : ∃ g, g = w.heap.size + 1 := ⟨_, rfl⟩
  rw [← hgO] at O ⊢
  obtain ⟨gH, hgH⟩ : ∃ g, g = w.heap.size := ⟨_, rfl⟩
  rw [← hgH] at H ⊢
  have H_b : w.heap.size ≤ gH := by omega
  have O_b : w.heap.size ≤ gO := by omega
  have ne_H_O : gH ≠ gO := by omega
  clear hgH hgO
  go_wp2_with fail
  refine (awake_any _).mono ?_
  rintro e w2 ⟨rfl, K'⟩
  replace H := H.below K'
  replace O := O.below K'
  replace K := Below.then_ K K'
  clear K'
  go_wp2_with (first | (refine wpList_load_want (by rfl) 27 (.tmp 5) rfl gH rfl _ _ (0, 0) _ H Try.underlying27 rfl cf_sz ?_))
  refine (fits_any ha (h0.below K)).mono ?_
  rintro e w3 ⟨bo, rfl, hB, K'⟩
  replace H := H.below K'
  replace O := O.below K'
  replace K := Below.then_ K K'
  clear K'
  rcases bo with _ | _
  · clear hB
    go_wp2_with fail
    refine (awake_any _).mono ?_
    rintro e w93 ⟨rfl, K'⟩
    replace K := Below.then_ K K'
    go_wp2
    go_ret
    exact ⟨rfl, K⟩
  replace hB := hB rfl
  obtain ⟨M, hMe⟩ : ∃ M, M = 2 ^ (32 - p.toNat) := ⟨_, rfl⟩
  unfold FitP at hB
  rw [← hMe] at hB
  clear hMe
  obtain ⟨hM, hm4, hmm⟩ := hB
  replace hmm := Lib.hid hmm
  go_wp2_with (first | (refine wpList_load_want (by rfl) 27 (.tmp 5) rfl gH rfl _ _ (0, 0) _ H Try.underlying27 rfl cf_sz ?_) | (refine wpList_load_want (by rfl) 38 (.tmp 7) rfl gO rfl _ _ (0, 0) _ O Try.underlying38 rfl op_sz ?_))
  refine (whole_any hM (hI.below K) hxs.out).mono ?_
  rintro e w4 ⟨bo, rfl, hB, K'⟩
  replace H := H.below K'
  replace O := O.below K'
  replace K := Below.then_ K K'
  clear K'
  rcases bo with _ | _
  · clear hB
    go_wp2_with fail
    refine (awake_any _).mono ?_
    rintro e w94 ⟨rfl, K'⟩
    replace K := Below.then_ K K'
    go_wp2
    go_ret
    exact ⟨rfl, K⟩
  replace hB := hB rfl
  obtain ⟨⟨q1, q2⟩, ⟨q3, q4⟩, ⟨q5, q6⟩, ⟨q7, q8, q9, q10⟩, hin⟩ := hB
  dsimp only at q7 q8 q9 q10 hin
  have N0 : n0 ≤ 65536 := by omega
  have N1 : n1 ≤ 65536 := by omega
  have N2 : n2 ≤ 65536 := by omega
  have N3 : n3 ≤ 65536 := by omega
  have O_13 := O.at_ (v := .int .u64 (s.word : Int)) 13 rfl
  have O_z := O.lt
  go_upto_region 7 with (first | ((with_reducible refine ((C0 _).out).mono ?_); rintro e w' ⟨rfl, rfl⟩) | ((with_reducible refine ((C1 _).out).mono ?_); rintro e w' ⟨rfl, rfl⟩))
  clear O_13 O_z
  refine wp_region_held_drew (S := fun w' => Below w.heap.size w w' ∧ Bk w' gH 27 (#[.int .u32 a, .int .i64 p, .slice A n c, .int .i64 sh, .int .i64 wo, .int .i64 qu, .int .i64 tr]) ∧ Bk w' gO 38 (opv ⟨A0, n0, c0, A1, n1, c1, A2, n2, c2, A3, n3, c3⟩ s) ∧ True) (by kernel_rfl) ⟨K.drew, H.below ((Below.refl _ _).drew), O.below ((Below.refl _ _).drew), trivial⟩ (fun hHeld => ?_)
  generalize w4.drew = v5 at hHeld ⊢
  refine wpAnyH_take (i := 0) (oi := ⟨some 58, _, _, _, _, _⟩) (v := ?_) rfl (by kernel_rfl) (by kernel_rfl) (by kernel_rfl) (fun _ _ _ h => h) (Or.inl ⟨by rfl, ?_⟩) hHeld ?_
  rotate_left
  · intro ww hSw
    try dsimp only at hSw
    go_simp
    try with_reducible rfl
    try omega
  try simp only [Act.put, List.setIfInBounds_toArray, List.set_cons_zero, List.set_cons_succ]
  refine wpAnyH_take (i := 1) (oi := ⟨some 59, _, _, _, _, _⟩) (v := ?_) rfl (by kernel_rfl) (by kernel_rfl) (by kernel_rfl) (fun _ _ _ h => h) (Or.inl ⟨by rfl, ?_⟩) hHeld ?_
  rotate_left
  · intro ww hSw
    try dsimp only at hSw
    go_simp
    try with_reducible rfl
    try omega
  try simp only [Act.put, List.setIfInBounds_toArray, List.set_cons_zero, List.set_cons_succ]
  refine wpAnyH_take (i := 2) (oi := ⟨some 60, _, _, _, _, _⟩) (v := .bool false) rfl (by kernel_rfl) (by kernel_rfl) (by kernel_rfl) (fun _ _ _ h => h) (Or.inl ⟨by rfl, ?_⟩) hHeld ?_
  · intro ww hSw
    try dsimp only at hSw
    go_simp
    try with_reducible rfl
    try omega
  try simp only [Act.put, List.setIfInBounds_toArray, List.set_cons_zero, List.set_cons_succ]
  refine wpAnyH_take (i := 3) (oi := ⟨some 61, _, _, _, _, _⟩) (v := .bool false) rfl (by kernel_rfl) (by kernel_rfl) (by kernel_rfl) (fun _ _ _ h => h) (Or.inl ⟨by rfl, ?_⟩) hHeld ?_
  · intro ww hSw
    try dsimp only at hSw
    go_simp
    try with_reducible rfl
    try omega
  try simp only [Act.put, List.setIfInBounds_toArray, List.set_cons_zero, List.set_cons_succ]
  refine wpAnyH_take (i := 4) (oi := ⟨some 62, _, _, _, _, _⟩) (v := ?_) rfl (by kernel_rfl) (by kernel_rfl) (by kernel_rfl) (fun _ _ _ h => h) (Or.inl ⟨by rfl, ?_⟩) hHeld ?_
  rotate_left
  · intro ww hSw
    try dsimp only at hSw
    go_simp
    try with_reducible rfl
    try omega
  try simp only [Act.put, List.setIfInBounds_toArray, List.set_cons_zero, List.set_cons_succ]
  refine wpAnyH_take (i := 5) (oi := ⟨some 63, _, _, _, _, _⟩) (v := ?_) rfl (by kernel_rfl) (by kernel_rfl) (by kernel_rfl) (fun _ _ _ h => h) (Or.inl ⟨by rfl, ?_⟩) hHeld ?_
  rotate_left
  · intro ww hSw
    try dsimp only at hSw
    go_simp
    try with_reducible rfl
    try omega
  try simp only [Act.put, List.setIfInBounds_toArray, List.set_cons_zero, List.set_cons_succ]
  refine wpAnyH_take (i := 6) (oi := ⟨some 64, _, _, _, _, _⟩) (v := .bool false) rfl (by kernel_rfl) (by kernel_rfl) (by kernel_rfl) (fun _ _ _ h => h) (Or.inl ⟨by rfl, ?_⟩) hHeld ?_
  · intro ww hSw
    try dsimp only at hSw
    go_simp
    try with_reducible rfl
    try omega
  try simp only [Act.put, List.setIfInBounds_toArray, List.set_cons_zero, List.set_cons_succ]
  refine wpAnyH_take (i := 7) (oi := ⟨some 65, _, _, _, _, _⟩) (v := .bool false) rfl (by kernel_rfl) (by kernel_rfl) (by kernel_rfl) (fun _ _ _ h => h) (Or.inl ⟨by rfl, ?_⟩) hHeld ?_
  · intro ww hSw
    try dsimp only at hSw
    go_simp
    try with_reducible rfl
    try omega
  try simp only [Act.put, List.setIfInBounds_toArray, List.set_cons_zero, List.set_cons_succ]
  refine wpAnyH_take (i := 8) (oi := ⟨some 66, _, _, _, _, _⟩) (v := .bool false) rfl (by kernel_rfl) (by kernel_rfl) (by kernel_rfl) (fun _ _ _ h => h) (Or.inl ⟨by rfl, ?_⟩) hHeld ?_
  · intro ww hSw
    try dsimp only at hSw
    go_simp
    try with_reducible rfl
    try omega
  try simp only [Act.put, List.setIfInBounds_toArray, List.set_cons_zero, List.set_cons_succ]
  refine wpAnyH_take (i := 9) (oi := ⟨some 67, _, _, _, _, _⟩) (v := .agg (#[.int .u32 a, .int .i64 p, .slice A n c, .int .i64 sh, .int .i64 wo, .int .i64 qu, .int .i64 tr])) rfl (by kernel_rfl) (by kernel_rfl) (by kernel_rfl) (fun _ _ _ h => h) (yieldsIf_load_row (by rfl) 27 (.tmp 5) rfl gH rfl 27 _ (0, 0) _ (fun _ hS => hS.2.1) Try.underlying27 rfl cf_sz) hHeld ?_
  try simp only [Act.put, List.setIfInBounds_toArray, List.set_cons_zero, List.set_cons_succ]
  refine wpAnyH_take (i := 10) (oi := ⟨some 68, _, _, _, _, _⟩) (v := .agg (opv ⟨A0, n0, c0, A1, n1, c1, A2, n2, c2, A3, n3, c3⟩ s)) rfl (by kernel_rfl) (by kernel_rfl) (by kernel_rfl) (fun _ _ _ h => h) (yieldsIf_load_row (by rfl) 38 (.tmp 7) rfl gO rfl 38 _ (0, 0) _ (fun _ hS => hS.2.2.1) Try.underlying38 rfl op_sz) hHeld ?_
  try simp only [Act.put, List.setIfInBounds_toArray, List.set_cons_zero, List.set_cons_succ]
  refine wpAnyH_take (i := 12) (oi := ⟨some 70, _, _, _, _, _⟩) (v := .agg (#[.int .u32 a, .int .i64 p, .slice A n c, .int .i64 sh, .int .i64 wo, .int .i64 qu, .int .i64 tr])) rfl (by kernel_rfl) (by kernel_rfl) (by kernel_rfl) (fun _ _ _ h => h) (yieldsIf_load_row (by rfl) 27 (.tmp 5) rfl gH rfl 27 _ (0, 0) _ (fun _ hS => hS.2.1) Try.underlying27 rfl cf_sz) hHeld ?_
  try simp only [Act.put, List.setIfInBounds_toArray, List.set_cons_zero, List.set_cons_succ]
  refine wpAnyH_take (i := 13) (oi := ⟨some 71, _, _, _, _, _⟩) (v := .agg (opv ⟨A0, n0, c0, A1, n1, c1, A2, n2, c2, A3, n3, c3⟩ s)) rfl (by kernel_rfl) (by kernel_rfl) (by kernel_rfl) (fun _ _ _ h => h) (yieldsIf_load_row (by rfl) 38 (.tmp 7) rfl gO rfl 38 _ (0, 0) _ (fun _ hS => hS.2.2.1) Try.underlying38 rfl op_sz) hHeld ?_
  try simp only [Act.put, List.setIfInBounds_toArray, List.set_cons_zero, List.set_cons_succ]
  refine wpAnyH_ready (rs := [11]) (by kernel_rfl) (by simp) ?_
  refine AllReadyH.cons (o := ⟨some 69, _, _, _, _, _⟩) rfl (fun K0 hK => ?_) AllReadyH.nil
  go_simp
  refine (goes_any (sh := sh) (wo := wo) (qu := qu) (tr := tr) (A := A) (n := n) (c := c) (s := s) ha hM (by show n0 ≤ 65536; omega) (hI.below hHeld.1) hin (L.below hHeld.1) (by show n1 ≤ 65536; omega) (by show n2 ≤ 65536; omega) (by show n3 ≤ 65536; omega)).mono ?_
  rintro e v6 ⟨A0', c0', A1', c1', A2', c2', A3', c3', rfl, L', K'⟩
  refine hK.out _ _ ⟨Below.then_ hHeld.1 K', hHeld.2.1.below K', hHeld.2.2.1.below K', trivial⟩ (fun hHeld' => ?_)
  clear hHeld K' hK K0
  have hHeld := hHeld'
  clear hHeld'
  try dsimp only
  refine wpAnyH_ready (rs := [14]) (by kernel_rfl) (by simp) ?_
  refine AllReadyH.cons (o := ⟨some 72, _, _, _, _, _⟩) rfl (fun K0 hK => ?_) AllReadyH.nil
  go_simp
  refine (rgoes_any (sh := sh) (wo := wo) (qu := qu) (tr := tr) (A := A) (n := n) (c := c) (s := s) ha hM (by show n0 ≤ 65536; omega) (hI.below hHeld.1) hin (by omega) (by omega)).mono ?_
  rintro e v7 ⟨rfl, K'⟩
  replace L' := L'.below K'
  refine hK.out _ _ ⟨Below.then_ hHeld.1 K', hHeld.2.1.below K', hHeld.2.2.1.below K', trivial⟩ (fun hHeld' => ?_)
  clear hHeld K' hK K0
  have hHeld := hHeld'
  clear hHeld'
  try dsimp only
  refine wpAnyH_ready (rs := [15]) (by kernel_rfl) (by simp) ?_
  refine AllReadyH.cons (o := ⟨some 73, _, _, _, _, _⟩) rfl (fun K0 hK => ?_) AllReadyH.nil
  go_simp
  refine (sameop_any ((L'.asked hx.out).lower (Nat.zero_le _)) (hI.below hHeld.1) L' (L.below hHeld.1) hf.out N0 N1 N2 N3).mono ?_
  rintro e v8 ⟨rfl, K'⟩
  clear L'
  refine hK.out _ _ ⟨Below.then_ hHeld.1 K', hHeld.2.1.below K', hHeld.2.2.1.below K', trivial⟩ (fun hHeld' => ?_)
  clear hHeld K' hK K0
  have hHeld := hHeld'
  clear hHeld'
  try simp only [Act.put, List.setIfInBounds_toArray, List.set_cons_zero, List.set_cons_succ]
  refine wpAnyH_take (i := 16) (oi := ⟨some 74, _, _, _, _, _⟩) (v := .bool false) rfl (by kernel_rfl) (by kernel_rfl) (by kernel_rfl) (fun _ _ _ h => h) (Or.inl ⟨by rfl, ?_⟩) hHeld ?_
  · intro ww hSw
    try dsimp only at hSw
    go_simp
    try with_reducible rfl
    try omega
  try simp only [Act.put, List.setIfInBounds_toArray, List.set_cons_zero, List.set_cons_succ]
  refine wpAnyH_take (i := 17) (oi := ⟨some 75, _, _, _, _, _⟩) (v := .bool false) rfl (by kernel_rfl) (by kernel_rfl) (by kernel_rfl) (fun _ _ _ h => h) (Or.inl ⟨by rfl, ?_⟩) hHeld ?_
  · intro ww hSw
    try dsimp only at hSw
    go_simp
    try with_reducible rfl
    try omega
  try simp only [Act.put, List.setIfInBounds_toArray, List.set_cons_zero, List.set_cons_succ]
  refine wpAnyH_done (by kernel_rfl) ?_ _
  replace K := hHeld.1
  replace H := hHeld.2.1
  replace O := hHeld.2.2.1
  clear hHeld
  have O_8 : v8.cell? ⟨gO, 8, none⟩ = some (.int .i64 5) := (O.at_ (v := .int .i64 s.phase) 8 rfl).trans (by rw [hp.out])
  have O_z := O.lt
  go_upto_region 11 with (fail)
  clear O_8 O_z
  obtain ⟨lf, hlf⟩ : ∃ lf : Nat, s.leaf = (lf : Int) := ⟨s.leaf.toNat, by omega⟩
  have hlv : lf < lv M := by omega
  replace hlf := Lib.hid hlf
  have hm6 : m ≤ 65536 := (stepb hM.most hlv hmm.out).1
  go_wp2_with (first | (refine wpList_load_row rfl 27 (.tmp 5) rfl gH rfl _ _ (0, 0) _ H Try.underlying27 rfl cf_sz ?_) | (refine wpList_load_row rfl 38 (.tmp 7) rfl gO rfl _ _ (0, 0) _ O Try.underlying38 rfl op_sz ?_))
  refine (step_any (lf := lf) ha hM (by show n0 ≤ 65536; omega) (hI.below K) hin (L.below K) (by show n1 ≤ 65536; omega) (by show n2 ≤ 65536; omega) (by show n3 ≤ 65536; omega) (hU.below K) hmm.out hlf.out hlv (by omega) (by have := hp.out; omega) hw).mono ?_
  rintro e w9 ⟨A0', c0', A1', c1', A2', c2', A3', c3', B1, d1, rfl, U1, L1, _, K'⟩
  replace H := H.below K'
  replace O := O.below K'
  replace K := Below.then_ K K'
  clear K'
  have H_lt := H.lt
  have O_lt := O.lt
  have KS := K.size
  go_upto_region 12 with (refine wpList_store_row rfl 38 (.tmp 18) (.tmp 90) rfl _ _ rfl rfl _ _ (Bk.new _ _ _) op_sz rfl (opv_one _ _) ?_)
  rw [World.setRow_alloc_new]
  replace H := H.alloc (.cells (opv ⟨A0', n0, c0', A1', n1, c1', A2', n2, c2', A3', n3, c3'⟩ (stO a M n0 xs ys s)) 38)
  replace O := O.alloc (.cells (opv ⟨A0', n0, c0', A1', n1, c1', A2', n2, c2', A3', n3, c3'⟩ (stO a M n0 xs ys s)) 38)
  replace U1 := U1.below (below_alloc _ (.cells (opv ⟨A0', n0, c0', A1', n1, c1', A2', n2, c2', A3', n3, c3'⟩ (stO a M n0 xs ys s)) 38))
  replace L1 := L1.below (below_alloc _ (.cells (opv ⟨A0', n0, c0', A1', n1, c1', A2', n2, c2', A3', n3, c3'⟩ (stO a M n0 xs ys s)) 38))
  replace K := Below.then_ K (below_alloc _ (.cells (opv ⟨A0', n0, c0', A1', n1, c1', A2', n2, c2', A3', n3, c3'⟩ (stO a M n0 xs ys s)) 38))
  have X : Bk (World.alloc (w9) (.cells (opv ⟨A0', n0, c0', A1', n1, c1', A2', n2, c2', A3', n3, c3'⟩ (stO a M n0 xs ys s)) 38)) (World.heap (w9)).size 38 (opv ⟨A0', n0, c0', A1', n1, c1', A2', n2, c2', A3', n3, c3'⟩ (stO a M n0 xs ys s)) := Bk.new _ _ _
  try simp only [World.size_alloc] at X
  generalize (w9).alloc (.cells (opv ⟨A0', n0, c0', A1', n1, c1', A2', n2, c2', A3', n3, c3'⟩ (stO a M n0 xs ys s)) 38) = w10 at H O X U1 L1 K ⊢
  obtain ⟨gX, hgX⟩ : ∃ g, g = w9.heap.size := ⟨_, rfl⟩
  rw [← hgX] at X ⊢
  have X_b : w.heap.size ≤ gX := by have := KS; omega
  have ne_H_X : gH ≠ gX := by have := H_lt; omega
  have ne_O_X : gO ≠ gX := by have := O_lt; omega
  clear hgX
  clear H_lt O_lt KS
  go_wp2_with (first | (refine wpList_load_row rfl 27 (.tmp 5) rfl gH rfl _ _ (0, 0) _ H Try.underlying27 rfl cf_sz ?_) | (refine wpList_load_row rfl 38 (.tmp 7) rfl gO rfl _ _ (0, 0) _ O Try.underlying38 rfl op_sz ?_))
  refine (rstep_any (lf := lf) ha hM (by show n0 ≤ 65536; omega) (hI.below K) hin (hU.below K) hmm.out hlf.out hlv (by omega) (by have := hp.out; omega) hw (by omega) (by omega)).mono ?_
  rintro e w11 ⟨B2, d2, rfl, U2, K'⟩
  replace H := H.below K'
  replace O := O.below K'
  replace X := X.below K'
  replace U1 := U1.below K'
  replace L1 := L1.below K'
  replace K := Below.then_ K K'
  clear K'
  have H_lt := H.lt
  have O_lt := O.lt
  have X_lt := X.lt
  have KS := K.size
  go_upto_region 13 with (refine wpList_store_row rfl 38 (.tmp 20) (.tmp 97) rfl _ _ rfl rfl _ _ (Bk.new _ _ _) op_sz rfl (opv_one _ _) ?_)
  rw [World.setRow_alloc_new]
  replace H := H.alloc (.cells (opv ⟨A0, n0, c0, A1, n1, c1, A2, n2, c2, A3, n3, c3⟩ (stO a M n0 xs ys s)) 38)
  replace O := O.alloc (.cells (opv ⟨A0, n0, c0, A1, n1, c1, A2, n2, c2, A3, n3, c3⟩ (stO a M n0 xs ys s)) 38)
  replace X := X.alloc (.cells (opv ⟨A0, n0, c0, A1, n1, c1, A2, n2, c2, A3, n3, c3⟩ (stO a M n0 xs ys s)) 38)
  replace U1 := U1.below (below_alloc _ (.cells (opv ⟨A0, n0, c0, A1, n1, c1, A2, n2, c2, A3, n3, c3⟩ (stO a M n0 xs ys s)) 38))
  replace L1 := L1.below (below_alloc _ (.cells (opv ⟨A0, n0, c0, A1, n1, c1, A2, n2, c2, A3, n3, c3⟩ (stO a M n0 xs ys s)) 38))
  replace U2 := U2.below (below_alloc _ (.cells (opv ⟨A0, n0, c0, A1, n1, c1, A2, n2, c2, A3, n3, c3⟩ (stO a M n0 xs ys s)) 38))
  replace K := Below.then_ K (below_alloc _ (.cells (opv ⟨A0, n0, c0, A1, n1, c1, A2, n2, c2, A3, n3, c3⟩ (stO a M n0 xs ys s)) 38))
  have Y : Bk (World.alloc (w11) (.cells (opv ⟨A0, n0, c0, A1, n1, c1, A2, n2, c2, A3, n3, c3⟩ (stO a M n0 xs ys s)) 38)) (World.heap (w11)).size 38 (opv ⟨A0, n0, c0, A1, n1, c1, A2, n2, c2, A3, n3, c3⟩ (stO a M n0 xs ys s)) := Bk.new _ _ _
  try simp only [World.size_alloc] at Y
  generalize (w11).alloc (.cells (opv ⟨A0, n0, c0, A1, n1, c1, A2, n2, c2, A3, n3, c3⟩ (stO a M n0 xs ys s)) 38) = w12 at H O X Y U1 L1 U2 K ⊢
  obtain ⟨gY, hgY⟩ : ∃ g, g = w11.heap.size := ⟨_, rfl⟩
  rw [← hgY] at Y ⊢
  have Y_b : w.heap.size ≤ gY := by have := KS; omega
  have ne_H_Y : gH ≠ gY := by have := H_lt; omega
  have ne_O_Y : gO ≠ gY := by have := O_lt; omega
  have ne_X_Y : gX ≠ gY := by have := X_lt; omega
  clear hgY
  clear H_lt O_lt X_lt KS
  go_wp2_with fail
  refine (same_any U1 U2 hm6).mono ?_
  rintro e w13 ⟨rfl, K'⟩
  replace H := H.below K'
  replace O := O.below K'
  replace X := X.below K'
  replace Y := Y.below K'
  replace U1 := U1.below K'
  replace L1 := L1.below K'
  replace U2 := U2.below K'
  replace K := Below.then_ K K'
  clear K'
  go_wp2_with (first | (refine wpList_load_want (by rfl) 38 (.tmp 18) rfl gX rfl _ _ (0, 0) _ X Try.underlying38 rfl op_sz ?_) | (refine wpList_load_want (by rfl) 38 (.tmp 20) rfl gY rfl _ _ (0, 0) _ Y Try.underlying38 rfl op_sz ?_))
  refine (sameop_any ((L1.asked hx.out).lower (Nat.zero_le _)) (hI.below K) L1 (L.below K) hf.out N0 N1 N2 N3).mono ?_
  rintro e w14 ⟨rfl, K'⟩
  replace H := H.below K'
  replace O := O.below K'
  replace X := X.below K'
  replace Y := Y.below K'
  replace U1 := U1.below K'
  replace L1 := L1.below K'
  replace U2 := U2.below K'
  replace K := Below.then_ K K'
  clear K'
  go_wp2
  go_ret
  exact ⟨rfl, K⟩
theorem main (ha : a < 4294967296) (h0 : IS .i64 lo w A n c zs) (hU : US w B m d ys) (hI : IS .u32 0 w h.A0 h.n0 h.c0 xs) (hxs : ∀ j, j < h.n0 → ∃ x : Nat, gi xs j = (x : Int) ∧ x < 4294967296) (L : Lists 0 w h l) (hf : ∀ x ∈ l.ses, (Lit.int .u64 x).wf = true) (hw : s.word < 18446744073709551616) (hF : (F : Int) % 65 = (f : Nat)) (hT : (T : Int) % 65 = (t : Nat)) (hF2 : F < 256) (hT2 : T < 256) (hf1 : f ≤ 64) (ht1 : t ≤ 64) :
    Calls Try.prog 3 #[.agg #[.int .u32 a, .int .i64 p, .slice A n c, .int .i64 sh, .int .i64 wo, .int .i64 qu, .int .i64 tr], .slice B m d, .agg (opv h s), .int .u8 F, .int .u8 T] w (RetBo true w) := by
  by_cases h4 : s.phase = 4
  · exact mark ha h0 hU hI hxs L hf hw hF hT hF2 hT2 hf1 ht1 h4
  · by_cases h5 : s.phase = 5
    · exact set_ ha h0 hU hI hxs L hf hw hF hT hF2 hT2 hf1 ht1 h5
    · exact other ha h0 hU hI hxs L hf hw hF hT hF2 hT2 hf1 ht1 ⟨h4, h5⟩
end
theorem walk (a p : Int) (A : Option Addr) (n c : Nat) (z : List Int) (sh wo qu tr : Int) (B : Option Addr) (m d : Nat) (zb : List Int) (h : Hd) (s : Sc) (y0 y1 y2 y3 : List Int) (F T : Int) (w : World) (wa : (Lit.int .u32 a).wf = true) (wr : IsRow .i64 w A n c z) (wb : IsRow .u64 w B m d zb) (hw : s.word < 18446744073709551616) (r0 : IsRow .u32 w h.A0 h.n0 h.c0 y0) (r1 : IsRow .u32 w h.A1 h.n1 h.c1 y1) (r2 : IsRow .i64 w h.A2 h.n2 h.c2 y2) (r3 : IsRow .u64 w h.A3 h.n3 h.c3 y3) (wF : (Lit.int .u8 F).wf = true) (wT : (Lit.int .u8 T).wf = true) :
    Calls Try.prog 3 #[.agg #[.int .u32 a, .int .i64 p, .slice A n c, .int .i64 sh, .int .i64 wo, .int .i64 qu, .int .i64 tr], .slice B m d, .agg (opv h s), .int .u8 F, .int .u8 T] w fun e w' => e = .returned (.bool true) ∧ Below w.heap.size w w' := by
  obtain ⟨a, rfl, ha⟩ := wf_u32 wa
  obtain ⟨zs, h0, _⟩ := IS.of_row wr
  obtain ⟨ys, hU⟩ := US.of_row wb
  obtain ⟨xs, hI, hx⟩ := IS.of_row r0
  obtain ⟨ads, i1, _⟩ := IS.of_row r1
  obtain ⟨ers, i2, _⟩ := IS.of_row r2
  obtain ⟨ses, i3, hf⟩ := IS.of_row r3
  have hxs : ∀ j, j < h.n0 → ∃ x : Nat, gi xs j = (x : Int) ∧ x < 4294967296 := fun j hj => by
    have hl := hI.len
    obtain ⟨X, e, hX⟩ := wf_u32 (hx _ (gi_mem (show j < xs.length by omega)))
    exact ⟨X, e, hX⟩
  obtain ⟨F, rfl, hF⟩ := wf_u8 wF
  obtain ⟨T, rfl, hT⟩ := wf_u8 wT
  exact main ha h0 hU hI hxs (l := ⟨xs, ads, ers, ses⟩) ⟨hI, i1, i2, i3⟩ hf hw (f := F % 65) (t := T % 65) (by omega) (by omega) hF hT (by omega) (by omega)
end Go.Proofs.Ytlfdekeahplidaa.hintSteps
