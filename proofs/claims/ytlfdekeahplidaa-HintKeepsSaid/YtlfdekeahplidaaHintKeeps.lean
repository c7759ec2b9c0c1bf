/-
  The walk of the law HintKeeps: for every configuration, cells and operation it answers true.
-/
import Derived.Test.YtlfdekeahplidaaHintAwake
import Derived.Test.YtlfdekeahplidaaHintWhole
import Derived.Test.YtlfdekeahplidaaHintGuard
namespace Go.Proofs.Ytlfdekeahplidaa.hintKeeps
open Go.RowKit
set_option linter.unusedVariables false
section
variable {w : World} {lo a m d : Nat} {p sh wo qu tr : Int} {A B : Option Addr} {n c : Nat} {zs xs : List Int} {ys : List Nat} {h : Hd} {s : Sc} {l : Ls}
set_option maxRecDepth 100000 in
set_option maxHeartbeats 1000000 in
theorem other (ha : a < 4294967296) (h0 : IS .i64 lo w A n c zs) (hU : US w B m d ys) (hI : IS .u32 0 w h.A0 h.n0 h.c0 xs) (hxs : ∀ j, j < h.n0 → ∃ x : Nat, gi xs j = (x : Int) ∧ x < 4294967296) (L : Lists 0 w h l) (hf : ∀ x ∈ l.ses, (Lit.int .u64 x).wf = true) (hw : s.word < 18446744073709551616) (hph : s.phase ≠ 4 ∧ s.phase ≠ 5) :
    Calls Try.prog 6 #[.agg #[.int .u32 a, .int .i64 p, .slice A n c, .int .i64 sh, .int .i64 wo, .int .i64 qu, .int .i64 tr], .slice B m d, .agg (opv h s)] w (RetBo true w) := by
  replace hxs := Lib.hid hxs
  replace hf := Lib.hid hf
  have f4 : (s.phase != 4) = true := by simpa using hph.1
  have f5 : (s.phase != 5) = true := by simpa using hph.2
  clear hph
  go_enter Try.func6, Try.ntmps6
  go_upto_region 1 with (fail)
  have K := below_alloc w (.cells #[.int .u32 a, .int .i64 p, .slice A n c, .int .i64 sh, .int .i64 wo, .int .i64 qu, .int .i64 tr] 27)
  have H : Bk (World.alloc (w) (.cells #[.int .u32 a, .int .i64 p, .slice A n c, .int .i64 sh, .int .i64 wo, .int .i64 qu, .int .i64 tr] 27)) (World.heap (w)).size 27 (#[.int .u32 a, .int .i64 p, .slice A n c, .int .i64 sh, .int .i64 wo, .int .i64 qu, .int .i64 tr]) := Bk.new _ _ _
  replace H := H.alloc (.cells (opv h s) 38)
  replace K := Below.then_ K (below_alloc _ (.cells (opv h s) 38))
  have O : Bk (World.alloc ((w).alloc (.cells #[.int .u32 a, .int .i64 p, .slice A n c, .int .i64 sh, .int .i64 wo, .int .i64 qu, .int .i64 tr] 27)) (.cells (opv h s) 38)) (World.heap ((w).alloc (.cells #[.int .u32 a, .int .i64 p, .slice A n c, .int .i64 sh, .int .i64 wo, .int .i64 qu, .int .i64 tr] 27))).size 38 (opv h s) := Bk.new _ _ _
  try simp only [World.size_alloc] at H O
  generalize ((w).alloc (.cells #[.int .u32 a, .int .i64 p, .slice A n c, .int .i64 sh, .int .i64 wo, .int .i64 qu, .int .i64 tr] 27)).alloc (.cells (opv h s) 38) = w1 at H O K ⊢
  obtain ⟨gO, hgO⟩ : ∃ g, g = w.heap.size + 1 := ⟨_, rfl⟩
  rw [← hgO] at O ⊢
  obtain ⟨gH, hgH⟩ : ∃ g, g = w.heap.size := ⟨_, rfl⟩
  rw [← hgH] at H ⊢
  have H_b : w.heap.size ≤ gH := by omega
  have O_b : w.heap.size ≤ gO := by omega
  have ne_H_O : gH ≠ gO := by omega
  clear hgH hgO
  go_wp2_with fail
  refine (awake_any _).mono ?_
  rintro e w2 ⟨rfl, K'⟩
  replace H := H.below K'
  replace O := O.below K'
  replace K := Below.then_ K K'
  clear K'
  go_wp2_with (first | (refine wpList_load_want (by rfl) 27 (.tmp 3) rfl gH rfl _ _ (0, 0) _ H Try.underlying27 rfl cf_sz ?_))
  refine (fits_any ha (h0.below K)).mono ?_
  rintro e w3 ⟨bo, rfl, hB, K'⟩
  replace H := H.below K'
  replace O := O.below K'
  replace K := Below.then_ K K'
  clear K'
  rcases bo with _ | _
  · clear hB
    go_wp2_with fail
    refine (awake_any _).mono ?_
    rintro e w93 ⟨rfl, K'⟩
    replace K := Below.then_ K K'
    go_wp2
    go_ret
    exact ⟨rfl, K⟩
  replace hB := hB rfl
  obtain ⟨M, hMe⟩ : ∃ M, M = 2 ^ (32 - p.toNat) := ⟨_, rfl⟩
  unfold FitP at hB
  rw [← hMe] at hB
  clear hMe
  obtain ⟨hM, hm4, hmm⟩ := hB
  replace hmm := Lib.hid hmm
  go_wp2_with (first | (refine wpList_load_want (by rfl) 27 (.tmp 3) rfl gH rfl _ _ (0, 0) _ H Try.underlying27 rfl cf_sz ?_) | (refine wpList_load_want (by rfl) 38 (.tmp 5) rfl gO rfl _ _ (0, 0) _ O Try.underlying38 rfl op_sz ?_))
  refine (whole_any hM (hI.below K) hxs.out).mono ?_
  rintro e w4 ⟨bo, rfl, hB, K'⟩
  replace H := H.below K'
  replace O := O.below K'
  replace K := Below.then_ K K'
  clear K'
  rcases bo with _ | _
  · clear hB
    go_wp2_with fail
    refine (awake_any _).mono ?_
    rintro e w94 ⟨rfl, K'⟩
    replace K := Below.then_ K K'
    go_wp2
    go_ret
    exact ⟨rfl, K⟩
  replace hB := hB rfl
  obtain ⟨⟨q1, q2⟩, ⟨q3, q4⟩, ⟨q5, q6⟩, ⟨q7, q8, q9, q10⟩, hin⟩ := hB
  have O_8 := O.at_ (v := .int .i64 s.phase) 8 rfl
  have O_z := O.lt
  go_wp2_with fail
  refine (awake_any _).mono ?_
  rintro e w77 ⟨rfl, K'⟩
  replace K := Below.then_ K K'
  go_wp2
  go_ret
  exact ⟨rfl, K⟩
set_option maxRecDepth 100000 in
set_option maxHeartbeats 1000000 in
theorem mark (ha : a < 4294967296) (h0 : IS .i64 lo w A n c zs) (hU : US w B m d ys) (hI : IS .u32 0 w h.A0 h.n0 h.c0 xs) (hxs : ∀ j, j < h.n0 → ∃ x : Nat, gi xs j = (x : Int) ∧ x < 4294967296) (L : Lists 0 w h l) (hf : ∀ x ∈ l.ses, (Lit.int .u64 x).wf = true) (hw : s.word < 18446744073709551616) (hph : s.phase = 4) :
    Calls Try.prog 6 #[.agg #[.int .u32 a, .int .i64 p, .slice A n c, .int .i64 sh, .int .i64 wo, .int .i64 qu, .int .i64 tr], .slice B m d, .agg (opv h s)] w (RetBo true w) := by
  replace hxs := Lib.hid hxs
  replace hf := Lib.hid hf
  have hp : s.phase = 4 := hph
  go_enter Try.func6, Try.ntmps6
  go_upto_region 1 with (fail)
  have K := below_alloc w (.cells #[.int .u32 a, .int .i64 p, .slice A n c, .int .i64 sh, .int .i64 wo, .int .i64 qu, .int .i64 tr] 27)
  have H : Bk (World.alloc (w) (.cells #[.int .u32 a, .int .i64 p, .slice A n c, .int .i64 sh, .int .i64 wo, .int .i64 qu, .int .i64 tr] 27)) (World.heap (w)).size 27 (#[.int .u32 a, .int .i64 p, .slice A n c, .int .i64 sh, .int .i64 wo, .int .i64 qu, .int .i64 tr]) := Bk.new _ _ _
  replace H := H.alloc (.cells (opv h s) 38)
  replace K := Below.then_ K (below_alloc _ (.cells (opv h s) 38))
  have O : Bk (World.alloc ((w).alloc (.cells #[.int .u32 a, .int .i64 p, .slice A n c, .int .i64 sh, .int .i64 wo, .int .i64 qu, .int .i64 tr] 27)) (.cells (opv h s) 38)) (World.heap ((w).alloc (.cells #[.int .u32 a, .int .i64 p, .slice A n c, .int .i64 sh, .int .i64 wo, .int .i64 qu, .int .i64 tr] 27))).size 38 (opv h s) := Bk.new _ _ _
  try simp only [World.size_alloc] at H O
  generalize ((w).alloc (.cells #[.int .u32 a, .int .i64 p, .slice A n c, .int .i64 sh, .int .i64 wo, .int .i64 qu, .int .i64 tr] 27)).alloc (.cells (opv h s) 38) = w1 at H O K ⊢
  obtain ⟨gO, hgO⟩ : ∃ g, g = w.heap.size + 1 := ⟨_, rfl⟩
  rw [← hgO] at O ⊢
  obtain ⟨gH, hgH⟩ : ∃ g, g = w.heap.size := ⟨_, rfl⟩
  rw [← hgH] at H ⊢
  have H_b : w.heap.size ≤ gH := by omega
  have O_b : w.heap.size ≤ gO := by omega
  have ne_H_O : gH ≠ gO := by omega
  clear hgH hgO
  go_wp2_with fail
  refine (awake_any _).mono ?_
  rintro e w2 ⟨rfl, K'⟩
  replace H := H.below K'
  replace O := O.below K'
  replace K := Below.then_ K K'
  clear K'
  go_wp2_with (first | (refine wpList_load_want (by rfl) 27 (.tmp 3) rfl gH rfl _ _ (0, 0) _ H Try.underlying27 rfl cf_sz ?_))
  refine (fits_any ha (h0.below K)).mono ?_
  rintro e w3 ⟨bo, rfl, hB, K'⟩
  replace H := H.below K'
  replace O := O.below K'
  replace K := Below.then_ K K'
  clear K'
  rcases bo with _ | _
  · clear hB
    go_wp2_with fail
    refine (awake_any _).mono ?_
    rintro e w93 ⟨rfl, K'⟩
    replace K := Below.then_ K K'
    go_wp2
    go_ret
    exact ⟨rfl, K⟩
  replace hB := hB rfl
  obtain ⟨M, hMe⟩ : ∃ M, M = 2 ^ (32 - p.toNat) := ⟨_, rfl⟩
  unfold FitP at hB
  rw [← hMe] at hB
  clear hMe
  obtain ⟨hM, hm4, hmm⟩ := hB
  replace hmm := Lib.hid hmm
  go_wp2_with (first | (refine wpList_load_want (by rfl) 27 (.tmp 3) rfl gH rfl _ _ (0, 0) _ H Try.underlying27 rfl cf_sz ?_) | (refine wpList_load_want (by rfl) 38 (.tmp 5) rfl gO rfl _ _ (0, 0) _ O Try.underlying38 rfl op_sz ?_))
  refine (whole_any hM (hI.below K) hxs.out).mono ?_
  rintro e w4 ⟨bo, rfl, hB, K'⟩
  replace H := H.below K'
  replace O := O.below K'
  replace K := Below.then_ K K'
  clear K'
  rcases bo with _ | _
  · clear hB
    go_wp2_with fail
    refine (awake_any _).mono ?_
    rintro e w94 ⟨rfl, K'⟩
    replace K := Below.then_ K K'
    go_wp2
    go_ret
    exact ⟨rfl, K⟩
  replace hB := hB rfl
  obtain ⟨⟨q1, q2⟩, ⟨q3, q4⟩, ⟨q5, q6⟩, ⟨q7, q8, q9, q10⟩, hin⟩ := hB
  have O_8 : w4.cell? ⟨gO, 8, none⟩ = some (.int .i64 4) := (O.at_ (v := .int .i64 s.phase) 8 rfl).trans (by rw [hp])
  have O_z := O.lt
  go_upto_region 3 with (fail)
  clear O_8 O_z
  obtain ⟨i0, hi, hz0, hz1, hz2⟩ := info_parts u64_info
  have hU1 := hU.below K
  have hm6 : m ≤ 65536 := (stepb hM.most (lf := 0) (by unfold lv; have := hM.pos; omega) hmm.out).1
  have hown : (w4.alloc (.cells #[] 36)).ownsRow w4.heap.size 36 1 (.slice (some ⟨w4.heap.size, 0, none⟩) 0 0) 0 [] := World.ownsRow_lit w4 #[] 0 (Nat.le_refl _) (by unfold maxLen; omega) rfl
  have Ka := below_alloc w4 (.cells #[] 36)
  obtain ⟨gR, cR, wR, hap, OR, KR⟩ := run_append_us (P := Try.prog) Try.underlying28 hi hz0 hz1 hz2 hown (hU1.below Ka) hm6 (Nat.le_refl _) Ka.size 28
  have K' : Below w4.heap.size w4 wR := Ka.trans KR
  have UR := OR.us hU.fit
  clear hown Ka KR OR hi hz0 hz1 hz2
  go_upto_region 4 with (at_builtin; refine wpList_append_run rfl (.tmp 33) (.tmp 34) 28 rfl _ _ _ _ rfl rfl hap ?_)
  clear hap
  replace H := H.below K'
  replace O := O.below K'
  replace K := Below.then_ K K'
  clear K'
  clear hU1
  obtain ⟨lf, hlf⟩ : ∃ lf : Nat, s.leaf = (lf : Int) := ⟨s.leaf.toNat, by omega⟩
  go_wp2_with (first | (refine wpList_load_row rfl 27 (.tmp 3) rfl gH rfl _ _ (0, 0) _ H Try.underlying27 rfl cf_sz ?_) | (refine wpList_load_row rfl 38 (.tmp 5) rfl gO rfl _ _ (0, 0) _ O Try.underlying38 rfl op_sz ?_))
  refine (step_any (lf := lf) ha hM (by omega) (hI.below K) hin (L.below K) (by omega) (by omega) (by omega) UR hmm.out hlf (by omega) (by omega) (by omega) hw).mono ?_
  rintro e w5 ⟨A0, c0, A1, c1, A2, c2, A3, c3, B1, d1, rfl, _, _, _, K'⟩
  replace UR := UR.below K'
  replace H := H.below K'
  replace O := O.below K'
  replace K := Below.then_ K K'
  clear K'
  go_wp2_with fail
  refine (same_any UR (hU.below K) hm6).mono ?_
  rintro e w6 ⟨rfl, K'⟩
  replace H := H.below K'
  replace O := O.below K'
  replace K := Below.then_ K K'
  clear K'
  go_wp2
  go_ret
  exact ⟨rfl, K⟩
set_option maxRecDepth 100000 in
set_option maxHeartbeats 1000000 in
theorem set_ (ha : a < 4294967296) (h0 : IS .i64 lo w A n c zs) (hU : US w B m d ys) (hI : IS .u32 0 w h.A0 h.n0 h.c0 xs) (hxs : ∀ j, j < h.n0 → ∃ x : Nat, gi xs j = (x : Int) ∧ x < 4294967296) (L : Lists 0 w h l) (hf : ∀ x ∈ l.ses, (Lit.int .u64 x).wf = true) (hw : s.word < 18446744073709551616) (hph : s.phase = 5) :
    Calls Try.prog 6 #[.agg #[.int .u32 a, .int .i64 p, .slice A n c, .int .i64 sh, .int .i64 wo, .int .i64 qu, .int .i64 tr], .slice B m d, .agg (opv h s)] w (RetBo true w) := by
  replace hxs := Lib.hid hxs
  replace hf := Lib.hid hf
  have hp : s.phase = 5 := hph
  go_enter Try.func6, Try.ntmps6
  go_upto_region 1 with (fail)
  have K := below_alloc w (.cells #[.int .u32 a, .int .i64 p, .slice A n c, .int .i64 sh, .int .i64 wo, .int .i64 qu, .int .i64 tr] 27)
  have H : Bk (World.alloc (w) (.cells #[.int .u32 a, .int .i64 p, .slice A n c, .int .i64 sh, .int .i64 wo, .int .i64 qu, .int .i64 tr] 27)) (World.heap (w)).size 27 (#[.int .u32 a, .int .i64 p, .slice A n c, .int .i64 sh, .int .i64 wo, .int .i64 qu, .int .i64 tr]) := Bk.new _ _ _
  replace H := H.alloc (.cells (opv h s) 38)
  replace K := Below.then_ K (below_alloc _ (.cells (opv h s) 38))
  have O : Bk (World.alloc ((w).alloc (.cells #[.int .u32 a, .int .i64 p, .slice A n c, .int .i64 sh, .int .i64 wo, .int .i64 qu, .int .i64 tr] 27)) (.cells (opv h s) 38)) (World.heap ((w).alloc (.cells #[.int .u32 a, .int .i64 p, .slice A n c, .int .i64 sh, .int .i64 wo, .int .i64 qu, .int .i64 tr] 27))).size 38 (opv h s) := Bk.new _ _ _
  try simp only [World.size_alloc] at H O
  generalize ((w).alloc (.cells #[.int .u32 a, .int .i64 p, .slice A n c, .int .i64 sh, .int .i64 wo, .int .i64 qu, .int .i64 tr] 27)).alloc (.cells (opv h s) 38) = w1 at H O K ⊢
  obtain ⟨gO, hgO⟩ : ∃ g, g = w.heap.size + 1 := ⟨_, rfl⟩
  rw [← hgO] at O ⊢
  obtain ⟨gH, hgH⟩ : ∃ g, g = w.heap.size := ⟨_, rfl⟩
  rw [← hgH] at H ⊢
  have H_b : w.heap.size ≤ gH := by omega
  have O_b : w.heap.size ≤ gO := by omega
  have ne_H_O : gH ≠ gO := by omega
  clear hgH hgO
  go_wp2_with fail
  refine (awake_any _).mono ?_
  rintro e w2 ⟨rfl, K'⟩
  replace H := H.below K'
  replace O := O.below K'
  replace K := Below.then_ K K'
  clear K'
  go_wp2_with (first | (refine wpList_load_want (by rfl) 27 (.tmp 3) rfl gH rfl _ _ (0, 0) _ H Try.underlying27 rfl cf_sz ?_))
  refine (fits_any ha (h0.below K)).mono ?_
  rintro e w3 ⟨bo, rfl, hB, K'⟩
  replace H := H.below K'
  replace O := O.below K'
  replace K := Below.then_ K K'
  clear K'
  rcases bo with _ | _
  · clear hB
    go_wp2_with fail
    refine (awake_any _).mono ?_
    rintro e w93 ⟨rfl, K'⟩
    replace K := Below.then_ K K'
    go_wp2
    go_ret
    exact ⟨rfl, K⟩
  replace hB := hB rfl
  obtain ⟨M, hMe⟩ : ∃ M, M = 2 ^ (32 - p.toNat) := ⟨_, rfl⟩
  unfold FitP at hB
  rw [← hMe] at hB
  clear hMe
  obtain ⟨hM, hm4, hmm⟩ := hB
  replace hmm := Lib.hid hmm
  go_wp2_with (first | (refine wpList_load_want (by rfl) 27 (.tmp 3) rfl gH rfl _ _ (0, 0) _ H Try.underlying27 rfl cf_sz ?_) | (refine wpList_load_want (by rfl) 38 (.tmp 5) rfl gO rfl _ _ (0, 0) _ O Try.underlying38 rfl op_sz ?_))
  refine (whole_any hM (hI.below K) hxs.out).mono ?_
  rintro e w4 ⟨bo, rfl, hB, K'⟩
  replace H := H.below K'
  replace O := O.below K'
  replace K := Below.then_ K K'
  clear K'
  rcases bo with _ | _
  · clear hB
    go_wp2_with fail
    refine (awake_any _).mono ?_
    rintro e w94 ⟨rfl, K'⟩
    replace K := Below.then_ K K'
    go_wp2
    go_ret
    exact ⟨rfl, K⟩
  replace hB := hB rfl
  obtain ⟨⟨q1, q2⟩, ⟨q3, q4⟩, ⟨q5, q6⟩, ⟨q7, q8, q9, q10⟩, hin⟩ := hB
  have O_8 : w4.cell? ⟨gO, 8, none⟩ = some (.int .i64 5) := (O.at_ (v := .int .i64 s.phase) 8 rfl).trans (by rw [hp])
  have O_z := O.lt
  go_upto_region 3 with (fail)
  clear O_8 O_z
  obtain ⟨i0, hi, hz0, hz1, hz2⟩ := info_parts u64_info
  have hU1 := hU.below K
  have hm6 : m ≤ 65536 := (stepb hM.most (lf := 0) (by unfold lv; have := hM.pos; omega) hmm.out).1
  have hown : (w4.alloc (.cells #[] 36)).ownsRow w4.heap.size 36 1 (.slice (some ⟨w4.heap.size, 0, none⟩) 0 0) 0 [] := World.ownsRow_lit w4 #[] 0 (Nat.le_refl _) (by unfold maxLen; omega) rfl
  have Ka := below_alloc w4 (.cells #[] 36)
  obtain ⟨gR, cR, wR, hap, OR, KR⟩ := run_append_us (P := Try.prog) Try.underlying28 hi hz0 hz1 hz2 hown (hU1.below Ka) hm6 (Nat.le_refl _) Ka.size 28
  have K' : Below w4.heap.size w4 wR := Ka.trans KR
  have UR := OR.us hU.fit
  clear hown Ka KR OR hi hz0 hz1 hz2
  go_upto_region 4 with (at_builtin; refine wpList_append_run rfl (.tmp 33) (.tmp 34) 28 rfl _ _ _ _ rfl rfl hap ?_)
  clear hap
  replace H := H.below K'
  replace O := O.below K'
  replace K := Below.then_ K K'
  clear K'
  clear hU1
  obtain ⟨lf, hlf⟩ : ∃ lf : Nat, s.leaf = (lf : Int) := ⟨s.leaf.toNat, by omega⟩
  go_wp2_with (first | (refine wpList_load_row rfl 27 (.tmp 3) rfl gH rfl _ _ (0, 0) _ H Try.underlying27 rfl cf_sz ?_) | (refine wpList_load_row rfl 38 (.tmp 5) rfl gO rfl _ _ (0, 0) _ O Try.underlying38 rfl op_sz ?_))
  refine (step_any (lf := lf) ha hM (by omega) (hI.below K) hin (L.below K) (by omega) (by omega) (by omega) UR hmm.out hlf (by omega) (by omega) (by omega) hw).mono ?_
  rintro e w5 ⟨A0, c0, A1, c1, A2, c2, A3, c3, B1, d1, rfl, _, _, _, K'⟩
  replace UR := UR.below K'
  replace H := H.below K'
  replace O := O.below K'
  replace K := Below.then_ K K'
  clear K'
  go_wp2_with fail
  refine (same_any UR (hU.below K) hm6).mono ?_
  rintro e w6 ⟨rfl, K'⟩
  replace H := H.below K'
  replace O := O.below K'
  replace K := Below.then_ K K'
  clear K'
  go_wp2
  go_ret
  exact ⟨rfl, K⟩
theorem main (ha : a < 4294967296) (h0 : IS .i64 lo w A n c zs) (hU : US w B m d ys) (hI : IS .u32 0 w h.A0 h.n0 h.c0 xs) (hxs : ∀ j, j < h.n0 → ∃ x : Nat, gi xs j = (x : Int) ∧ x < 4294967296) (L : Lists 0 w h l) (hf : ∀ x ∈ l.ses, (Lit.int .u64 x).wf = true) (hw : s.word < 18446744073709551616) :
    Calls Try.prog 6 #[.agg #[.int .u32 a, .int .i64 p, .slice A n c, .int .i64 sh, .int .i64 wo, .int .i64 qu, .int .i64 tr], .slice B m d, .agg (opv h s)] w (RetBo true w) := by
  by_cases h4 : s.phase = 4
  · exact mark ha h0 hU hI hxs L hf hw h4
  · by_cases h5 : s.phase = 5
    · exact set_ ha h0 hU hI hxs L hf hw h5
    · exact other ha h0 hU hI hxs L hf hw ⟨h4, h5⟩
end
theorem walk (a p : Int) (A : Option Addr) (n c : Nat) (z : List Int) (sh wo qu tr : Int) (B : Option Addr) (m d : Nat) (zb : List Int) (h : Hd) (s : Sc) (y0 y1 y2 y3 : List Int) (w : World) (wa : (Lit.int .u32 a).wf = true) (wr : IsRow .i64 w A n c z) (wb : IsRow .u64 w B m d zb) (hw : s.word < 18446744073709551616) (r0 : IsRow .u32 w h.A0 h.n0 h.c0 y0) (r1 : IsRow .u32 w h.A1 h.n1 h.c1 y1) (r2 : IsRow .i64 w h.A2 h.n2 h.c2 y2) (r3 : IsRow .u64 w h.A3 h.n3 h.c3 y3) :
    Calls Try.prog 6 #[.agg #[.int .u32 a, .int .i64 p, .slice A n c, .int .i64 sh, .int .i64 wo, .int .i64 qu, .int .i64 tr], .slice B m d, .agg (opv h s)] w fun e w' => e = .returned (.bool true) ∧ Below w.heap.size w w' := by
  obtain ⟨a, rfl, ha⟩ := wf_u32 wa
  obtain ⟨zs, h0, _⟩ := IS.of_row wr
  obtain ⟨ys, hU⟩ := US.of_row wb
  obtain ⟨xs, hI, hx⟩ := IS.of_row r0
  obtain ⟨ads, i1, _⟩ := IS.of_row r1
  obtain ⟨ers, i2, _⟩ := IS.of_row r2
  obtain ⟨ses, i3, hf⟩ := IS.of_row r3
  have hxs : ∀ j, j < h.n0 → ∃ x : Nat, gi xs j = (x : Int) ∧ x < 4294967296 := fun j hj => by
    have hl := hI.len
    obtain ⟨X, e, hX⟩ := wf_u32 (hx _ (gi_mem (show j < xs.length by omega)))
    exact ⟨X, e, hX⟩
  exact main ha h0 hU hI hxs (l := ⟨xs, ads, ers, ses⟩) ⟨hI, i1, i2, i3⟩ hf hw
end Go.Proofs.Ytlfdekeahplidaa.hintKeeps
