/-
  What hint.Step answers: the cells and the operation behind a step of marking. Conditions: a configuration that may be, as many cells as there are, an operation whose leaf there is, with At 0 or 1 and Phase 4 or 5, at most 65536 addresses, all the block's, and at most 65536 items in its lists.
-/
import Derived.Test.YtlfdekeahplidaaHintSwap
import Derived.Deep.WholeRow
namespace Go.Proofs.Ytlfdekeahplidaa
open Go.RowKit
set_option linter.unusedVariables false
def UL (lo : Nat) (w : World) (A : Option Addr) (n c : Nat) (xs : List Nat) : Prop := US w A n c xs ∧ ∀ b o, A = some ⟨b, o, none⟩ → lo ≤ b
section
variable {lo : Nat} {w w' : World} {A : Option Addr} {n c : Nat} {xs : List Nat}
theorem UL.below (h : UL lo w A n c xs) (K : Below w.heap.size w w') : UL lo w' A n c xs := ⟨h.1.below K, h.2⟩
theorem UL.set_low (h : UL lo w A n c xs) {p : Addr} (hp : p.block < lo) (u : Value) : UL lo (w.setCell p u) A n c xs :=
  ⟨h.1.keep (by simp [World.setCell]) (fun b o e _ => Below.heap_setCell w p u b (by have := h.2 b o e; omega)), h.2⟩
theorem UL.set_row (h : UL lo w A n c xs) {g : Nat} (hg : g < lo) (u : Array Value) : UL lo (w.setRow g u) A n c xs :=
  ⟨h.1.keep (by simp) (fun b o e _ => setRow_other w g b u (by have := h.2 b o e; omega)), h.2⟩
end
theorem results_tc {P : Program} {fn : Func} {q p : Tmp} {ty : TypeId} (h : fn.results = #[.tmp q, .cell p ty]) (tmps : Array Value) (w : World) (g : Nat) (t : TypeId) (cs : Array Value) (fr : Nat × Nat) (d : TypeDesc)
    (hp : tmps.getD p undef = .pointer (some ⟨g, 0, none⟩)) (hg : w.heap[g]? = some (.cells cs t fr))
    (hu : P.underlying ty = some d) (hd : (match d with | .struct _ | .array _ _ => true | _ => false) = true) (hi : (P.info? ty).map (·.size) = some cs.size) :
    (results fn tmps).run P w = .ok (.tuple #[tmps.getD q undef, .agg cs]) w := by
  have hp' : tmps[p]?.getD undef = .pointer (some ⟨g, 0, none⟩) := by simpa using hp
  simp [results, h, hp', asAddr, run_loadVar_row w g t ty cs fr d hg hu hd hi]
/-- The list doesn't lie in block k. -/
def Apart (k : Nat) (B : Option Addr) : Prop := ∀ b o, B = some ⟨b, o, none⟩ → b ≠ k
def RetStep (h : Hd) (s : Sc) (l : Ls) (m : Nat) (ys : List Nat) (B0 : Option Addr) (w : World) (e : Ending) (w' : World) : Prop := ∃ A0 c0 A1 c1 A2 c2 A3 c3 B d, e = .returned (.tuple #[.slice B m d, .agg (opv ⟨A0, h.n0, c0, A1, h.n1, c1, A2, h.n2, c2, A3, h.n3, c3⟩ s)]) ∧ US w' B m d ys ∧ Lists w.heap.size w' ⟨A0, h.n0, c0, A1, h.n1, c1, A2, h.n2, c2, A3, h.n3, c3⟩ l ∧ (∀ k, k < w.heap.size → Apart k B0 → Apart k B) ∧ Below w.heap.size w w'
section
variable {w : World} {lo lo2 a M m d cl b lf : Nat} {p sh wo qu tr : Int} {A B : Option Addr} {n c : Nat} {xs : List Int} {ys : List Nat} {h : Hd} {s : Sc} {l : Ls}
set_option maxHeartbeats 2000000 in
theorem step4_0 (ha : a < 4294967296) (hM : Much a p M) (hn : h.n0 ≤ 65536) (hI : IS .u32 lo w h.A0 h.n0 h.c0 xs) (hin : InB a M h.n0 xs) (L : Lists lo2 w h l) (h1 : h.n1 ≤ 65536) (h2 : h.n2 ≤ 65536) (h3 : h.n3 ≤ 65536) (hU : US w B m d ys) (hm : m ≤ 65536) (hlf : s.leaf = (lf : Int)) (hlv : lf < lv M) (hcm : cl < m) (hb2 : b < 64) (hw : s.word < 18446744073709551616) (hcl : cl = lv M + lf / 64) (hb : b = lf % 64) (hat : s.at_ = 0) (hph : s.phase = 4) :
    Calls Try.prog 17 #[.agg #[.int .u32 a, .int .i64 p, .slice A n c, .int .i64 sh, .int .i64 wo, .int .i64 qu, .int .i64 tr], .slice B m d, .agg (opv h s)] w (RetStep h (lk a h.n0 xs s (gt ys cl) b) l m ys B w) := by
  have hl3 := lv_le hM.most
  have T0 := fun w (L : Lists lo2 w h l) => Lib.hid (own_any (s := s) L hn h1 h2 h3)
  have hx := Lib.hid (L.i0.uniq hI)
  have TS := fun w => Lib.hid (summaries_any (w := w) (sh := sh) (wo := wo) (qu := qu) (tr := tr) (A := A) (n := n) (c := c) (leaf := (lf : Int)) ha hM)
  have TC : ∀ (w : World) gN gE (_ : w.cell? ⟨gN, 0, none⟩ = some (.int .i64 (M : Nat))) (_ : w.cell? ⟨gE, 0, none⟩ = some (.int .i64 (lf : Nat))), Hid (Calls Try.prog 59 #[.pointer (some ⟨gN, 0, none⟩), .pointer (some ⟨gE, 0, none⟩)] w fun e w' => e = .returned (.tuple #[.int .i64 (cl : Nat), .int .i64 (b : Nat)]) ∧ w = w') := fun w gN gE hN hE => by rw [hcl, hb]; exact clo1_any hN hE hM.most (by omega)
  have TK := fun w lo A0 c0 A1 c1 A2 c2 A3 c3 (hI : IS .u32 lo w A0 h.n0 c0 xs) => Lib.hid (look_any (w := w) (sh := sh) (wo := wo) (qu := qu) (tr := tr) (A := A) (n := n) (c := c) (h := ⟨A0, h.n0, c0, A1, h.n1, c1, A2, h.n2, c2, A3, h.n3, c3⟩) (s := s) (x := gt ys cl) (b := b) ha hM hn hI hin (gt_lt hU.fit cl) hb2)
  have TL := fun w (U : US w B m d ys) => Lib.hid (load_nat U cl hcm)
  clear hcl hb
  rcases s with ⟨kind, addr, err, aad, used, phase, shard, sought, leaf, bit, word, full, at_, tries, item, stamp⟩
  rcases h with ⟨A0, n0, c0, A1, n1, c1, A2, n2, c2, A3, n3, c3⟩
  dsimp only at *
  subst hlf hat hph
  go_enter Try.func17, Try.ntmps17
  go_upto_region 1 with (fail)
  have K := below_alloc w (.cells #[.int .u32 a, .int .i64 p, .slice A n c, .int .i64 sh, .int .i64 wo, .int .i64 qu, .int .i64 tr] 27)
  have H : Bk (World.alloc (w) (.cells #[.int .u32 a, .int .i64 p, .slice A n c, .int .i64 sh, .int .i64 wo, .int .i64 qu, .int .i64 tr] 27)) (World.heap (w)).size 27 (#[.int .u32 a, .int .i64 p, .slice A n c, .int .i64 sh, .int .i64 wo, .int .i64 qu, .int .i64 tr]) := Bk.new _ _ _
  replace H := H.alloc (.cells (opv ⟨A0, n0, c0, A1, n1, c1, A2, n2, c2, A3, n3, c3⟩ ⟨kind, addr, err, aad, used, 4, shard, sought, (lf : Int), bit, word, full, 0, tries, item, stamp⟩) 38)
  replace K := Below.then_ K (below_alloc _ (.cells (opv ⟨A0, n0, c0, A1, n1, c1, A2, n2, c2, A3, n3, c3⟩ ⟨kind, addr, err, aad, used, 4, shard, sought, (lf : Int), bit, word, full, 0, tries, item, stamp⟩) 38))
  have O : Bk (World.alloc ((w).alloc (.cells #[.int .u32 a, .int .i64 p, .slice A n c, .int .i64 sh, .int .i64 wo, .int .i64 qu, .int .i64 tr] 27)) (.cells (opv ⟨A0, n0, c0, A1, n1, c1, A2, n2, c2, A3, n3, c3⟩ ⟨kind, addr, err, aad, used, 4, shard, sought, (lf : Int), bit, word, full, 0, tries, item, stamp⟩) 38)) (World.heap ((w).alloc (.cells #[.int .u32 a, .int .i64 p, .slice A n c, .int .i64 sh, .int .i64 wo, .int .i64 qu, .int .i64 tr] 27))).size 38 (opv ⟨A0, n0, c0, A1, n1, c1, A2, n2, c2, A3, n3, c3⟩ ⟨kind, addr, err, aad, used, 4, shard, sought, (lf : Int), bit, word, full, 0, tries, item, stamp⟩) := Bk.new _ _ _
  replace H := H.alloc (.cells #[.int .i64 0, .int .u32 0, .slice none 0 0, .int .i64 0, .int .u32 0, .bool false, .slice none 0 0, .slice none 0 0, .int .i64 0, .int .i64 0, .int .i64 0, .int .i64 0, .int .i64 0, .int .u64 0, .bool false, .slice none 0 0, .int .i64 0, .int .i64 0, .int .i64 0, .int .i64 0] 38)
  replace O := O.alloc (.cells #[.int .i64 0, .int .u32 0, .slice none 0 0, .int .i64 0, .int .u32 0, .bool false, .slice none 0 0, .slice none 0 0, .int .i64 0, .int .i64 0, .int .i64 0, .int .i64 0, .int .i64 0, .int .u64 0, .bool false, .slice none 0 0, .int .i64 0, .int .i64 0, .int .i64 0, .int .i64 0] 38)
  replace K := Below.then_ K (below_alloc _ (.cells #[.int .i64 0, .int .u32 0, .slice none 0 0, .int .i64 0, .int .u32 0, .bool false, .slice none 0 0, .slice none 0 0, .int .i64 0, .int .i64 0, .int .i64 0, .int .i64 0, .int .i64 0, .int .u64 0, .bool false, .slice none 0 0, .int .i64 0, .int .i64 0, .int .i64 0, .int .i64 0] 38))
  have R : Bk (World.alloc (((w).alloc (.cells #[.int .u32 a, .int .i64 p, .slice A n c, .int .i64 sh, .int .i64 wo, .int .i64 qu, .int .i64 tr] 27)).alloc (.cells (opv ⟨A0, n0, c0, A1, n1, c1, A2, n2, c2, A3, n3, c3⟩ ⟨kind, addr, err, aad, used, 4, shard, sought, (lf : Int), bit, word, full, 0, tries, item, stamp⟩) 38)) (.cells #[.int .i64 0, .int .u32 0, .slice none 0 0, .int .i64 0, .int .u32 0, .bool false, .slice none 0 0, .slice none 0 0, .int .i64 0, .int .i64 0, .int .i64 0, .int .i64 0, .int .i64 0, .int .u64 0, .bool false, .slice none 0 0, .int .i64 0, .int .i64 0, .int .i64 0, .int .i64 0] 38)) (World.heap (((w).alloc (.cells #[.int .u32 a, .int .i64 p, .slice A n c, .int .i64 sh, .int .i64 wo, .int .i64 qu, .int .i64 tr] 27)).alloc (.cells (opv ⟨A0, n0, c0, A1, n1, c1, A2, n2, c2, A3, n3, c3⟩ ⟨kind, addr, err, aad, used, 4, shard, sought, (lf : Int), bit, word, full, 0, tries, item, stamp⟩) 38))).size 38 (opv hd0 sc0) := Bk.new _ _ _
  try simp only [World.size_alloc] at H O R
  generalize (((w).alloc (.cells #[.int .u32 a, .int .i64 p, .slice A n c, .int .i64 sh, .int .i64 wo, .int .i64 qu, .int .i64 tr] 27)).alloc (.cells (opv ⟨A0, n0, c0, A1, n1, c1, A2, n2, c2, A3, n3, c3⟩ ⟨kind, addr, err, aad, used, 4, shard, sought, (lf : Int), bit, word, full, 0, tries, item, stamp⟩) 38)).alloc (.cells #[.int .i64 0, .int .u32 0, .slice none 0 0, .int .i64 0, .int .u32 0, .bool false, .slice none 0 0, .slice none 0 0, .int .i64 0, .int .i64 0, .int .i64 0, .int .i64 0, .int .i64 0, .int .u64 0, .bool false, .slice none 0 0, .int .i64 0, .int .i64 0, .int .i64 0, .int .i64 0] 38) = w1 at H O R K ⊢
  obtain ⟨gR, hgR⟩ : ∃ g, g = w.heap.size + 1 + 1 := ⟨_, rfl⟩
  rw [← hgR] at R ⊢
  obtain ⟨gO, hgO⟩ : ∃ g, g = w.heap.size + 1 := ⟨_, rfl⟩
  rw [← hgO] at O ⊢
  obtain ⟨gH, hgH⟩ : ∃ g, g = w.heap.size := ⟨_, rfl⟩
  rw [← hgH] at H ⊢
  have H_b : w.heap.size ≤ gH := by omega
  have O_b : w.heap.size ≤ gO := by omega
  have R_b : w.heap.size ≤ gR := by omega
  have ne_H_O : gH ≠ gO := by omega
  have ne_H_R : gH ≠ gR := by omega
  have ne_O_R : gO ≠ gR := by omega
  clear hgH hgO hgR
  go_wp2_with (refine wpList_load_row rfl 38 (.tmp 5) rfl gO rfl _ _ (0, 0) _ O Try.underlying38 rfl op_sz ?_)
  refine ((T0 _ (L.below K)).out).mono ?_
  have hOlo := O.lt
  have hRlo := R.lt
  have KS1 := K.size
  rintro e w2 ⟨A0', c0', A1', c1', A2', c2', A3', c3', rfl, L', K'⟩
  replace H := H.below K'
  replace O := O.below K'
  replace R := R.below K'
  replace K := Below.then_ K K'
  clear K'
  generalize w1.heap.size = lo1 at L' hOlo hRlo KS1
  go_upto_region 2 with (refine wpList_store_row rfl 38 (.tmp 5) (.tmp 13) rfl gO _ rfl rfl _ _ O op_sz rfl (opv_one _ _) ?_)
  replace H := H.row_far ne_H_O (opv ⟨A0', n0, c0', A1', n1, c1', A2', n2, c2', A3', n3, c3'⟩ ⟨kind, addr, err, aad, used, 4, shard, sought, (lf : Int), bit, word, full, 0, tries, item, stamp⟩)
  replace R := R.row_far (Ne.symm ne_O_R) (opv ⟨A0', n0, c0', A1', n1, c1', A2', n2, c2', A3', n3, c3'⟩ ⟨kind, addr, err, aad, used, 4, shard, sought, (lf : Int), bit, word, full, 0, tries, item, stamp⟩)
  replace O := O.row (opv ⟨A0', n0, c0', A1', n1, c1', A2', n2, c2', A3', n3, c3'⟩ ⟨kind, addr, err, aad, used, 4, shard, sought, (lf : Int), bit, word, full, 0, tries, item, stamp⟩)
  replace L' := L'.set_row hOlo (opv ⟨A0', n0, c0', A1', n1, c1', A2', n2, c2', A3', n3, c3'⟩ ⟨kind, addr, err, aad, used, 4, shard, sought, (lf : Int), bit, word, full, 0, tries, item, stamp⟩)
  replace K := below_setRow K O_b (opv ⟨A0', n0, c0', A1', n1, c1', A2', n2, c2', A3', n3, c3'⟩ ⟨kind, addr, err, aad, used, 4, shard, sought, (lf : Int), bit, word, full, 0, tries, item, stamp⟩)
  generalize w2.setRow gO (opv ⟨A0', n0, c0', A1', n1, c1', A2', n2, c2', A3', n3, c3'⟩ ⟨kind, addr, err, aad, used, 4, shard, sought, (lf : Int), bit, word, full, 0, tries, item, stamp⟩) = w3 at H O R L' K ⊢
  have O_11 := O.at_ (v := .int .i64 (lf : Int)) 11 rfl
  have O_z := O.lt
  go_wp2_with (refine wpList_load_row rfl 27 (.tmp 3) rfl gH rfl _ _ (0, 0) _ H Try.underlying27 rfl cf_sz ?_)
  refine ((TS _).out).mono ?_
  rintro e w4 ⟨gN, gE, rfl, N, E, hgN, hgE, K'⟩
  clear O_11 O_z hgN hgE
  replace H := H.below K'
  replace O := O.below K'
  replace R := R.below K'
  replace L' := L'.below K'
  replace K := Below.then_ K K'
  clear K'
  have H_lt := H.lt
  have O_lt := O.lt
  have R_lt := R.lt
  have N_lt := N.lt
  have E_lt := E.lt
  have KS := K.size
  go_upto_region 3 with (refine wpList_store_row rfl 70 (.tmp 8) (.tmp 17) rfl _ _ rfl rfl _ _ (Bk.new _ _ _) ar_sz rfl (ar_one _ _) ?_)
  rw [World.setRow_alloc_new]
  replace H := H.alloc (.cells (clos gN gE) 70)
  replace O := O.alloc (.cells (clos gN gE) 70)
  replace R := R.alloc (.cells (clos gN gE) 70)
  replace N := N.alloc (.cells (clos gN gE) 70)
  replace E := E.alloc (.cells (clos gN gE) 70)
  replace L' := L'.below (below_alloc _ (.cells (clos gN gE) 70))
  replace K := Below.then_ K (below_alloc _ (.cells (clos gN gE) 70))
  have V : Bk (World.alloc (w4) (.cells (clos gN gE) 70)) (World.heap (w4)).size 70 (clos gN gE) := Bk.new _ _ _
  try simp only [World.size_alloc] at V
  generalize (w4).alloc (.cells (clos gN gE) 70) = w5 at H O R N E V L' K ⊢
  obtain ⟨gV, hgV⟩ : ∃ g, g = w4.heap.size := ⟨_, rfl⟩
  rw [← hgV] at V ⊢
  have V_b : w.heap.size ≤ gV := by have := KS; omega
  have ne_H_V : gH ≠ gV := by have := H_lt; omega
  have ne_O_V : gO ≠ gV := by have := O_lt; omega
  have ne_R_V : gR ≠ gV := by have := R_lt; omega
  have ne_N_V : gN ≠ gV := by have := N_lt; omega
  have ne_E_V : gE ≠ gV := by have := E_lt; omega
  clear hgV
  clear H_lt O_lt R_lt N_lt E_lt KS
  have O_16 := O.at_ (v := .int .i64 0) 16 rfl
  have O_z := O.lt
  have V_0 := V.at_ (v := .func (.func 59) #[] #[.pointer (some ⟨gN, 0, none⟩), .pointer (some ⟨gE, 0, none⟩)]) 0 rfl
  have V_z := V.lt
  go_upto_region 6 with ((with_reducible refine ((TC _ _ _ (N.at_ (v := .int .i64 M) 0 rfl) (E.at_ (v := .int .i64 lf) 0 rfl)).out).mono ?_); rintro e w' ⟨rfl, rfl⟩)
  clear O_16 O_z V_0 V_z N E V ne_H_V ne_O_V ne_R_V ne_N_V ne_E_V V_b TC TS T0
  have O_8 := O.at_ (v := .int .i64 4) 8 rfl
  have O_z := O.lt
  go_upto_region 8 with (fail)
  clear O_8 O_z
  refine wp_region_held_drew (S := fun w' => Below w.heap.size w w' ∧ Bk w' gH 27 (#[.int .u32 a, .int .i64 p, .slice A n c, .int .i64 sh, .int .i64 wo, .int .i64 qu, .int .i64 tr]) ∧ Bk w' gO 38 (opv ⟨A0', n0, c0', A1', n1, c1', A2', n2, c2', A3', n3, c3'⟩ ⟨kind, addr, err, aad, used, 4, shard, sought, (lf : Int), bit, word, full, 0, tries, item, stamp⟩) ∧ (∃ v : Array Value, v.size = 20 ∧ Bk w' gR 38 v) ∧ Lists lo1 w' ⟨A0', n0, c0', A1', n1, c1', A2', n2, c2', A3', n3, c3'⟩ l ∧ True) (by kernel_rfl) ⟨K.drew, H.below ((Below.refl _ _).drew), O.below ((Below.refl _ _).drew), ⟨_, rfl, R.below ((Below.refl _ _).drew)⟩, L'.below ((Below.refl _ _).drew), trivial⟩ (fun hHeld => ?_)
  generalize w5.drew = v6 at hHeld ⊢
  refine wpAnyH_take (i := 0) (oi := ⟨some 40, _, _, _, _, _⟩) (v := ?_) rfl (by kernel_rfl) (by kernel_rfl) (by kernel_rfl) (fun _ _ _ h => h) (Or.inl ⟨by rfl, ?_⟩) hHeld ?_
  rotate_left
  · intro ww hSw
    try dsimp only at hSw
    go_simp
    try with_reducible rfl
    try omega
  try simp only [Act.put, List.setIfInBounds_toArray, List.set_cons_zero, List.set_cons_succ]
  refine wpAnyH_take (i := 1) (oi := ⟨some 41, _, _, _, _, _⟩) (v := .agg (#[.int .u32 a, .int .i64 p, .slice A n c, .int .i64 sh, .int .i64 wo, .int .i64 qu, .int .i64 tr])) rfl (by kernel_rfl) (by kernel_rfl) (by kernel_rfl) (fun _ _ _ h => h) (yieldsIf_load_row (by rfl) 27 (.tmp 3) rfl gH rfl 27 _ (0, 0) _ (fun _ hS => hS.2.1) Try.underlying27 rfl cf_sz) hHeld ?_
  try simp only [Act.put, List.setIfInBounds_toArray, List.set_cons_zero, List.set_cons_succ]
  refine wpAnyH_take (i := 2) (oi := ⟨some 42, _, _, _, _, _⟩) (v := .agg (opv ⟨A0', n0, c0', A1', n1, c1', A2', n2, c2', A3', n3, c3'⟩ ⟨kind, addr, err, aad, used, 4, shard, sought, (lf : Int), bit, word, full, 0, tries, item, stamp⟩)) rfl (by kernel_rfl) (by kernel_rfl) (by kernel_rfl) (fun _ _ _ h => h) (yieldsIf_load_row (by rfl) 38 (.tmp 5) rfl gO rfl 38 _ (0, 0) _ (fun _ hS => hS.2.2.1) Try.underlying38 rfl op_sz) hHeld ?_
  try simp only [Act.put, List.setIfInBounds_toArray, List.set_cons_zero, List.set_cons_succ]
  refine wpAnyH_take (i := 3) (oi := ⟨some 43, _, _, _, _, _⟩) (v := ?_) rfl (by kernel_rfl) (by kernel_rfl) (by kernel_rfl) (fun _ _ _ h => h) (Or.inl ⟨by rfl, ?_⟩) hHeld ?_
  rotate_left
  · intro ww hSw
    try dsimp only at hSw
    go_simp
    try with_reducible rfl
    try omega
  try simp only [Act.put, List.setIfInBounds_toArray, List.set_cons_zero, List.set_cons_succ]
  refine wpAnyH_take (i := 4) (oi := ⟨some 44, _, _, _, _, _⟩) (v := ?_) rfl (by kernel_rfl) (by kernel_rfl) (by kernel_rfl) (fun _ _ _ h => h) (Or.inl ⟨by rfl, ?_⟩) hHeld ?_
  rotate_left
  · intro ww hSw
    try dsimp only at hSw
    go_simp
    try with_reducible rfl
    try omega
  try simp only [Act.put, List.setIfInBounds_toArray, List.set_cons_zero, List.set_cons_succ]
  refine wpAnyH_take (i := 6) (oi := ⟨some 46, _, _, _, _, _⟩) (v := ?_) rfl (by kernel_rfl) (by kernel_rfl) (by kernel_rfl) (fun _ _ _ h => h) (Or.inl ⟨by rfl, ?_⟩) hHeld ?_
  rotate_left
  · intro ww hSw
    try dsimp only at hSw
    go_simp
    try with_reducible rfl
    try omega
  try simp only [Act.put, List.setIfInBounds_toArray, List.set_cons_zero, List.set_cons_succ]
  refine wpAnyH_ready (rs := [5]) (by kernel_rfl) (by simp) ?_
  refine AllReadyH.cons (o := ⟨some 45, _, _, _, _, _⟩) rfl (fun K0 hK => ?_) AllReadyH.nil
  go_simp
  refine ((TL _ (hU.below hHeld.1)).out).mono ?_
  rintro e _ ⟨rfl, rfl⟩
  refine hK.out _ _ hHeld (fun hHeld' => ?_)
  clear hHeld hK K0
  have hHeld := hHeld'
  clear hHeld'
  try simp only [Act.put, List.setIfInBounds_toArray, List.set_cons_zero, List.set_cons_succ]
  refine wpAnyH_ready (rs := [7]) (by kernel_rfl) (by simp) ?_
  refine AllReadyH.cons (o := ⟨some 47, _, _, _, _, _⟩) rfl (fun K0 hK => ?_) AllReadyH.nil
  go_simp
  refine ((TK _ _ A0' c0' A1' c1' A2' c2' A3' c3' (hHeld.2.2.2.2.1.asked hx.out)).out).mono ?_
  rintro e v7 ⟨rfl, K'⟩
  refine hK.out _ _ ⟨Below.then_ hHeld.1 K', hHeld.2.1.below K', hHeld.2.2.1.below K', ⟨_, hHeld.2.2.2.1.choose_spec.1, hHeld.2.2.2.1.choose_spec.2.below K'⟩, hHeld.2.2.2.2.1.below K', trivial⟩ (fun hHeld' => ?_)
  clear hHeld K' hK K0
  have hHeld := hHeld'
  clear hHeld'
  try simp only [Act.put, List.setIfInBounds_toArray, List.set_cons_zero, List.set_cons_succ]
  refine wpAnyH_take (i := 8) (oi := ⟨some 6, _, _, _, _, _⟩) (v := ?_) rfl (by kernel_rfl) (by kernel_rfl) (by kernel_rfl) (fun _ _ _ h => h) (Or.inl ⟨by rfl, ?_⟩) hHeld ?_
  rotate_left
  · intro ww hSw
    try dsimp only at hSw
    go_simp
    try with_reducible rfl
    try omega
  try simp only [Act.put, List.setIfInBounds_toArray, List.set_cons_zero, List.set_cons_succ]
  refine wpAnyH_ready (rs := [9]) (by kernel_rfl) (by simp) ?_
  refine AllReadyH.cons (o := ⟨none, _, _, _, _, _⟩) rfl (fun K0 hK => ?_) AllReadyH.nil
  rw [if_pos (by rfl)]
  refine wp_store_row 38 (.tmp 7) (.tmp 47) rfl gR _ rfl rfl _ _ hHeld.2.2.2.1.choose_spec.2 op_sz hHeld.2.2.2.1.choose_spec.1 (opv_one _ _) ?_
  have new_R := Bk.row hHeld.2.2.2.1.choose_spec.2 (opv ⟨A0', n0, c0', A1', n1, c1', A2', n2, c2', A3', n3, c3'⟩ (lk a n0 xs ⟨kind, addr, err, aad, used, 4, shard, sought, (lf : Int), bit, word, full, 0, tries, item, stamp⟩ (gt ys cl) b))
  refine hK.out _ _ ⟨below_setRow hHeld.1 R_b _, hHeld.2.1.row_far ne_H_R _, hHeld.2.2.1.row_far ne_O_R _, ⟨_, rfl, new_R⟩, hHeld.2.2.2.2.1.set_row hRlo _, trivial⟩ (fun hHeld' => ?_)
  clear hHeld hK K0
  have hHeld := hHeld'
  clear hHeld'
  generalize v7.setRow gR (opv ⟨A0', n0, c0', A1', n1, c1', A2', n2, c2', A3', n3, c3'⟩ (lk a n0 xs ⟨kind, addr, err, aad, used, 4, shard, sought, (lf : Int), bit, word, full, 0, tries, item, stamp⟩ (gt ys cl) b)) = v8 at hHeld new_R  ⊢
  try simp only [Act.put]
  refine wpAnyH_done (by kernel_rfl) ?_ _
  replace K := hHeld.1
  replace H := hHeld.2.1
  replace O := hHeld.2.2.1
  replace R := new_R
  clear new_R
  replace L' := hHeld.2.2.2.2.1
  clear hHeld
  go_wp2
  refine bodyPost_ret (v := .tuple #[.slice B m d, .agg (opv ⟨A0', n0, c0', A1', n1, c1', A2', n2, c2', A3', n3, c3'⟩ (lk a n0 xs ⟨kind, addr, err, aad, used, 4, shard, sought, (lf : Int), bit, word, full, 0, tries, item, stamp⟩ (gt ys cl) b))]) ?_ rfl ?_
  · exact results_tc (fn := Try.f17) Try.results17 _ _ gR _ _ (0, 0) _ rfl R Try.underlying38 rfl op_sz
  exact ⟨_, _, _, _, _, _, _, _, _, _, rfl, hU.below K, L'.lower KS1, (fun _ _ h => h), K⟩
set_option maxHeartbeats 2000000 in
theorem step5_0_y (ha : a < 4294967296) (hM : Much a p M) (hn : h.n0 ≤ 65536) (hI : IS .u32 lo w h.A0 h.n0 h.c0 xs) (hin : InB a M h.n0 xs) (L : Lists lo2 w h l) (h1 : h.n1 ≤ 65536) (h2 : h.n2 ≤ 65536) (h3 : h.n3 ≤ 65536) (hU : US w B m d ys) (hm : m ≤ 65536) (hlf : s.leaf = (lf : Int)) (hlv : lf < lv M) (hcm : cl < m) (hb2 : b < 64) (hw : s.word < 18446744073709551616) (hcl : cl = lv M + lf / 64) (hb : b = lf % 64) (hat : s.at_ = 0) (hph : s.phase = 5) (heq : gt ys cl = s.word) :
    Calls Try.prog 17 #[.agg #[.int .u32 a, .int .i64 p, .slice A n c, .int .i64 sh, .int .i64 wo, .int .i64 qu, .int .i64 tr], .slice B m d, .agg (opv h s)] w (RetStep h (dn a h.n0 xs (worded s (mkd s.word b s.full))) l m (ys.set cl (mkd s.word b s.full)) B w) := by
  have hl3 := lv_le hM.most
  have T0 := fun w (L : Lists lo2 w h l) => Lib.hid (own_any (s := s) L hn h1 h2 h3)
  have hx := Lib.hid (L.i0.uniq hI)
  have TS := fun w => Lib.hid (summaries_any (w := w) (sh := sh) (wo := wo) (qu := qu) (tr := tr) (A := A) (n := n) (c := c) (leaf := (lf : Int)) ha hM)
  have TC : ∀ (w : World) gN gE (_ : w.cell? ⟨gN, 0, none⟩ = some (.int .i64 (M : Nat))) (_ : w.cell? ⟨gE, 0, none⟩ = some (.int .i64 (lf : Nat))), Hid (Calls Try.prog 59 #[.pointer (some ⟨gN, 0, none⟩), .pointer (some ⟨gE, 0, none⟩)] w fun e w' => e = .returned (.tuple #[.int .i64 (cl : Nat), .int .i64 (b : Nat)]) ∧ w = w') := fun w gN gE hN hE => by rw [hcl, hb]; exact clo1_any hN hE hM.most (by omega)
  have TM := fun w => Lib.hid (marked_any s.word b s.full hw hb2 w)
  have hy := mkd_lt s.full hw hb2
  obtain ⟨y, hy1⟩ : ∃ y, y = mkd s.word b s.full := ⟨_, rfl⟩
  rw [← hy1] at TM hy
  have TD := fun w lo A0 c0 A1 c1 A2 c2 A3 c3 (hI : IS .u32 lo w A0 h.n0 c0 xs) => Lib.hid (done_any (w := w) (sh := sh) (wo := wo) (qu := qu) (tr := tr) (A := A) (n := n) (c := c) (h := ⟨A0, h.n0, c0, A1, h.n1, c1, A2, h.n2, c2, A3, h.n3, c3⟩) (s := worded s y) ha hM hn hI hin)
  rw [← hy1]
  clear hy1
  have TW := fun w (U : US w B m d ys) => Lib.hid (heq ▸ swap_new U hcm hm hy)
  clear heq
  clear hcl hb
  rcases s with ⟨kind, addr, err, aad, used, phase, shard, sought, leaf, bit, word, full, at_, tries, item, stamp⟩
  rcases h with ⟨A0, n0, c0, A1, n1, c1, A2, n2, c2, A3, n3, c3⟩
  dsimp only at *
  subst hlf hat hph
  go_enter Try.func17, Try.ntmps17
  go_upto_region 1 with (fail)
  have K := below_alloc w (.cells #[.int .u32 a, .int .i64 p, .slice A n c, .int .i64 sh, .int .i64 wo, .int .i64 qu, .int .i64 tr] 27)
  have H : Bk (World.alloc (w) (.cells #[.int .u32 a, .int .i64 p, .slice A n c, .int .i64 sh, .int .i64 wo, .int .i64 qu, .int .i64 tr] 27)) (World.heap (w)).size 27 (#[.int .u32 a, .int .i64 p, .slice A n c, .int .i64 sh, .int .i64 wo, .int .i64 qu, .int .i64 tr]) := Bk.new _ _ _
  replace H := H.alloc (.cells (opv ⟨A0, n0, c0, A1, n1, c1, A2, n2, c2, A3, n3, c3⟩ ⟨kind, addr, err, aad, used, 5, shard, sought, (lf : Int), bit, word, full, 0, tries, item, stamp⟩) 38)
  replace K := Below.then_ K (below_alloc _ (.cells (opv ⟨A0, n0, c0, A1, n1, c1, A2, n2, c2, A3, n3, c3⟩ ⟨kind, addr, err, aad, used, 5, shard, sought, (lf : Int), bit, word, full, 0, tries, item, stamp⟩) 38))
  have O : Bk (World.alloc ((w).alloc (.cells #[.int .u32 a, .int .i64 p, .slice A n c, .int .i64 sh, .int .i64 wo, .int .i64 qu, .int .i64 tr] 27)) (.cells (opv ⟨A0, n0, c0, A1, n1, c1, A2, n2, c2, A3, n3, c3⟩ ⟨kind, addr, err, aad, used, 5, shard, sought, (lf : Int), bit, word, full, 0, tries, item, stamp⟩) 38)) (World.heap ((w).alloc (.cells #[.int .u32 a, .int .i64 p, .slice A n c, .int .i64 sh, .int .i64 wo, .int .i64 qu, .int .i64 tr] 27))).size 38 (opv ⟨A0, n0, c0, A1, n1, c1, A2, n2, c2, A3, n3, c3⟩ ⟨kind, addr, err, aad, used, 5, shard, sought, (lf : Int), bit, word, full, 0, tries, item, stamp⟩) := Bk.new _ _ _
  replace H := H.alloc (.cells #[.int .i64 0, .int .u32 0, .slice none 0 0, .int .i64 0, .int .u32 0, .bool false, .slice none 0 0, .slice none 0 0, .int .i64 0, .int .i64 0, .int .i64 0, .int .i64 0, .int .i64 0, .int .u64 0, .bool false, .slice none 0 0, .int .i64 0, .int .i64 0, .int .i64 0, .int .i64 0] 38)
  replace O := O.alloc (.cells #[.int .i64 0, .int .u32 0, .slice none 0 0, .int .i64 0, .int .u32 0, .bool false, .slice none 0 0, .slice none 0 0, .int .i64 0, .int .i64 0, .int .i64 0, .int .i64 0, .int .i64 0, .int .u64 0, .bool false, .slice none 0 0, .int .i64 0, .int .i64 0, .int .i64 0, .int .i64 0] 38)
  replace K := Below.then_ K (below_alloc _ (.cells #[.int .i64 0, .int .u32 0, .slice none 0 0, .int .i64 0, .int .u32 0, .bool false, .slice none 0 0, .slice none 0 0, .int .i64 0, .int .i64 0, .int .i64 0, .int .i64 0, .int .i64 0, .int .u64 0, .bool false, .slice none 0 0, .int .i64 0, .int .i64 0, .int .i64 0, .int .i64 0] 38))
  have R : Bk (World.alloc (((w).alloc (.cells #[.int .u32 a, .int .i64 p, .slice A n c, .int .i64 sh, .int .i64 wo, .int .i64 qu, .int .i64 tr] 27)).alloc (.cells (opv ⟨A0, n0, c0, A1, n1, c1, A2, n2, c2, A3, n3, c3⟩ ⟨kind, addr, err, aad, used, 5, shard, sought, (lf : Int), bit, word, full, 0, tries, item, stamp⟩) 38)) (.cells #[.int .i64 0, .int .u32 0, .slice none 0 0, .int .i64 0, .int .u32 0, .bool false, .slice none 0 0, .slice none 0 0, .int .i64 0, .int .i64 0, .int .i64 0, .int .i64 0, .int .i64 0, .int .u64 0, .bool false, .slice none 0 0, .int .i64 0, .int .i64 0, .int .i64 0, .int .i64 0] 38)) (World.heap (((w).alloc (.cells #[.int .u32 a, .int .i64 p, .slice A n c, .int .i64 sh, .int .i64 wo, .int .i64 qu, .int .i64 tr] 27)).alloc (.cells (opv ⟨A0, n0, c0, A1, n1, c1, A2, n2, c2, A3, n3, c3⟩ ⟨kind, addr, err, aad, used, 5, shard, sought, (lf : Int), bit, word, full, 0, tries, item, stamp⟩) 38))).size 38 (opv hd0 sc0) := Bk.new _ _ _
  try simp only [World.size_alloc] at H O R
  generalize (((w).alloc (.cells #[.int .u32 a, .int .i64 p, .slice A n c, .int .i64 sh, .int .i64 wo, .int .i64 qu, .int .i64 tr] 27)).alloc (.cells (opv ⟨A0, n0, c0, A1, n1, c1, A2, n2, c2, A3, n3, c3⟩ ⟨kind, addr, err, aad, used, 5, shard, sought, (lf : Int), bit, word, full, 0, tries, item, stamp⟩) 38)).alloc (.cells #[.int .i64 0, .int .u32 0, .slice none 0 0, .int .i64 0, .int .u32 0, .bool false, .slice none 0 0, .slice none 0 0, .int .i64 0, .int .i64 0, .int .i64 0, .int .i64 0, .int .i64 0, .int .u64 0, .bool false, .slice none 0 0, .int .i64 0, .int .i64 0, .int .i64 0, .int .i64 0] 38) = w1 at H O R K ⊢
  obtain ⟨gR, hgR⟩ : ∃ g, g = w.heap.size + 1 + 1 := ⟨_, rfl⟩
  rw [← hgR] at R ⊢
  obtain ⟨gO, hgO⟩ : ∃ g, g = w.heap.size + 1 := ⟨_, rfl⟩
  rw [← hgO] at O ⊢
  obtain ⟨gH, hgH⟩ : ∃ g, g = w.heap.size := ⟨_, rfl⟩
  rw [← hgH] at H ⊢
  have H_b : w.heap.size ≤ gH := by omega
  have O_b : w.heap.size ≤ gO := by omega
  have R_b : w.heap.size ≤ gR := by omega
  have ne_H_O : gH ≠ gO := by omega
  have ne_H_R : gH ≠ gR := by omega
  have ne_O_R : gO ≠ gR := by omega
  clear hgH hgO hgR
  go_wp2_with (refine wpList_load_row rfl 38 (.tmp 5) rfl gO rfl _ _ (0, 0) _ O Try.underlying38 rfl op_sz ?_)
  refine ((T0 _ (L.below K)).out).mono ?_
  have hOlo := O.lt
  have hRlo := R.lt
  have KS1 := K.size
  rintro e w2 ⟨A0', c0', A1', c1', A2', c2', A3', c3', rfl, L', K'⟩
  replace H := H.below K'
  replace O := O.below K'
  replace R := R.below K'
  replace K := Below.then_ K K'
  clear K'
  generalize w1.heap.size = lo1 at L' hOlo hRlo KS1
  go_upto_region 2 with (refine wpList_store_row rfl 38 (.tmp 5) (.tmp 13) rfl gO _ rfl rfl _ _ O op_sz rfl (opv_one _ _) ?_)
  replace H := H.row_far ne_H_O (opv ⟨A0', n0, c0', A1', n1, c1', A2', n2, c2', A3', n3, c3'⟩ ⟨kind, addr, err, aad, used, 5, shard, sought, (lf : Int), bit, word, full, 0, tries, item, stamp⟩)
  replace R := R.row_far (Ne.symm ne_O_R) (opv ⟨A0', n0, c0', A1', n1, c1', A2', n2, c2', A3', n3, c3'⟩ ⟨kind, addr, err, aad, used, 5, shard, sought, (lf : Int), bit, word, full, 0, tries, item, stamp⟩)
  replace O := O.row (opv ⟨A0', n0, c0', A1', n1, c1', A2', n2, c2', A3', n3, c3'⟩ ⟨kind, addr, err, aad, used, 5, shard, sought, (lf : Int), bit, word, full, 0, tries, item, stamp⟩)
  replace L' := L'.set_row hOlo (opv ⟨A0', n0, c0', A1', n1, c1', A2', n2, c2', A3', n3, c3'⟩ ⟨kind, addr, err, aad, used, 5, shard, sought, (lf : Int), bit, word, full, 0, tries, item, stamp⟩)
  replace K := below_setRow K O_b (opv ⟨A0', n0, c0', A1', n1, c1', A2', n2, c2', A3', n3, c3'⟩ ⟨kind, addr, err, aad, used, 5, shard, sought, (lf : Int), bit, word, full, 0, tries, item, stamp⟩)
  generalize w2.setRow gO (opv ⟨A0', n0, c0', A1', n1, c1', A2', n2, c2', A3', n3, c3'⟩ ⟨kind, addr, err, aad, used, 5, shard, sought, (lf : Int), bit, word, full, 0, tries, item, stamp⟩) = w3 at H O R L' K ⊢
  have O_11 := O.at_ (v := .int .i64 (lf : Int)) 11 rfl
  have O_z := O.lt
  go_wp2_with (refine wpList_load_row rfl 27 (.tmp 3) rfl gH rfl _ _ (0, 0) _ H Try.underlying27 rfl cf_sz ?_)
  refine ((TS _).out).mono ?_
  rintro e w4 ⟨gN, gE, rfl, N, E, hgN, hgE, K'⟩
  clear O_11 O_z hgN hgE
  replace H := H.below K'
  replace O := O.below K'
  replace R := R.below K'
  replace L' := L'.below K'
  replace K := Below.then_ K K'
  clear K'
  have H_lt := H.lt
  have O_lt := O.lt
  have R_lt := R.lt
  have N_lt := N.lt
  have E_lt := E.lt
  have KS := K.size
  go_upto_region 3 with (refine wpList_store_row rfl 70 (.tmp 8) (.tmp 17) rfl _ _ rfl rfl _ _ (Bk.new _ _ _) ar_sz rfl (ar_one _ _) ?_)
  rw [World.setRow_alloc_new]
  replace H := H.alloc (.cells (clos gN gE) 70)
  replace O := O.alloc (.cells (clos gN gE) 70)
  replace R := R.alloc (.cells (clos gN gE) 70)
  replace N := N.alloc (.cells (clos gN gE) 70)
  replace E := E.alloc (.cells (clos gN gE) 70)
  replace L' := L'.below (below_alloc _ (.cells (clos gN gE) 70))
  replace K := Below.then_ K (below_alloc _ (.cells (clos gN gE) 70))
  have V : Bk (World.alloc (w4) (.cells (clos gN gE) 70)) (World.heap (w4)).size 70 (clos gN gE) := Bk.new _ _ _
  try simp only [World.size_alloc] at V
  generalize (w4).alloc (.cells (clos gN gE) 70) = w5 at H O R N E V L' K ⊢
  obtain ⟨gV, hgV⟩ : ∃ g, g = w4.heap.size := ⟨_, rfl⟩
  rw [← hgV] at V ⊢
  have V_b : w.heap.size ≤ gV := by have := KS; omega
  have ne_H_V : gH ≠ gV := by have := H_lt; omega
  have ne_O_V : gO ≠ gV := by have := O_lt; omega
  have ne_R_V : gR ≠ gV := by have := R_lt; omega
  have ne_N_V : gN ≠ gV := by have := N_lt; omega
  have ne_E_V : gE ≠ gV := by have := E_lt; omega
  clear hgV
  clear H_lt O_lt R_lt N_lt E_lt KS
  have O_16 := O.at_ (v := .int .i64 0) 16 rfl
  have O_z := O.lt
  have V_0 := V.at_ (v := .func (.func 59) #[] #[.pointer (some ⟨gN, 0, none⟩), .pointer (some ⟨gE, 0, none⟩)]) 0 rfl
  have V_z := V.lt
  go_upto_region 6 with ((with_reducible refine ((TC _ _ _ (N.at_ (v := .int .i64 M) 0 rfl) (E.at_ (v := .int .i64 lf) 0 rfl)).out).mono ?_); rintro e w' ⟨rfl, rfl⟩)
  clear O_16 O_z V_0 V_z N E V ne_H_V ne_O_V ne_R_V ne_N_V ne_E_V V_b TC TS T0
  have O_8 := O.at_ (v := .int .i64 5) 8 rfl
  have O_z := O.lt
  go_upto_region 10 with (fail)
  clear O_8 O_z
  have O_13 := O.at_ (v := .int .u64 ((word : Nat) : Int)) 13 rfl
  have O_14 := O.at_ (v := .bool (full)) 14 rfl
  have O_z := O.lt
  go_upto_region 11 with ((with_reducible refine ((TM _).out).mono ?_); rintro e w' ⟨rfl, rfl⟩)
  go_wp2_with fail
  refine ((TW _ (hU.below K)).out).mono ?_
  have hOs := O.lt
  have hRs := R.lt
  have KSw := K.size
  rintro e w6 ⟨gS, dS, rfl, U, hgS, K'⟩
  have hgw : w.heap.size ≤ gS := Nat.le_trans KSw hgS
  clear KSw
  clear O_13 O_14 O_z
  replace H := H.below K'
  replace O := O.below K'
  replace R := R.below K'
  replace L' := L'.below K'
  replace K := Below.then_ K K'
  clear K'
  have U' : UL gS w6 (some ⟨gS, 0, none⟩) m dS (ys.set cl y) := ⟨U, fun b o e => by cases e; exact Nat.le_refl _⟩
  clear U
  have hOs2 : gO < gS := by omega
  have hRs2 : gR < gS := by omega
  clear hOs hRs hgS
  have O_13 := O.at_ (v := .int .u64 ((word : Nat) : Int)) 13 rfl
  have O_z := O.lt
  have O_f13 := O.fz 13
  go_upto_region 13 with (fail)
  replace H := H.far (p := ⟨gO, 13, none⟩) ne_H_O (.int .u64 (y : Nat))
  replace R := R.far (p := ⟨gO, 13, none⟩) (Ne.symm ne_O_R) (.int .u64 (y : Nat))
  replace O := O.set_ 13 (.int .u64 (y : Nat))
  replace L' := L'.set_low (p := ⟨gO, 13, none⟩) hOlo (.int .u64 (y : Nat))
  replace U' := U'.set_low (p := ⟨gO, 13, none⟩) hOs2 (.int .u64 (y : Nat))
  replace K := K.setCell (p := ⟨gO, 13, none⟩) O_b (.int .u64 (y : Nat))
  replace O : Bk ((w6).setCell ⟨gO, 13, none⟩ (.int .u64 (y : Nat))) gO 38 (opv ⟨A0', n0, c0', A1', n1, c1', A2', n2, c2', A3', n3, c3'⟩ (worded ⟨kind, addr, err, aad, used, 5, shard, sought, (lf : Int), bit, word, full, 0, tries, item, stamp⟩ y)) := O
  clear O_13 O_z O_f13
  generalize (w6).setCell ⟨gO, 13, none⟩ (.int .u64 (y : Nat)) = w7 at H O R L' U' K ⊢
  go_wp2_with (first | (refine wpList_load_row rfl 27 (.tmp 3) rfl gH rfl _ _ (0, 0) _ H Try.underlying27 rfl cf_sz ?_) | (refine wpList_load_row rfl 38 (.tmp 5) rfl gO rfl _ _ (0, 0) _ O Try.underlying38 rfl op_sz ?_))
  refine ((TD _ _ A0' c0' A1' c1' A2' c2' A3' c3' (L'.asked hx.out)).out).mono ?_
  rintro e w8 ⟨rfl, K'⟩
  replace H := H.below K'
  replace O := O.below K'
  replace R := R.below K'
  replace L' := L'.below K'
  replace U' := U'.below K'
  replace K := Below.then_ K K'
  clear K'
  go_wp2_with (refine wpList_store_row rfl 38 (.tmp 7) (.tmp 70) rfl gR _ rfl rfl _ _ R op_sz rfl (opv_one _ _) ?_)
  replace H := H.row_far ne_H_R (opv ⟨A0', n0, c0', A1', n1, c1', A2', n2, c2', A3', n3, c3'⟩ (dn a n0 xs (worded ⟨kind, addr, err, aad, used, 5, shard, sought, (lf : Int), bit, word, full, 0, tries, item, stamp⟩ y)))
  replace O := O.row_far ne_O_R (opv ⟨A0', n0, c0', A1', n1, c1', A2', n2, c2', A3', n3, c3'⟩ (dn a n0 xs (worded ⟨kind, addr, err, aad, used, 5, shard, sought, (lf : Int), bit, word, full, 0, tries, item, stamp⟩ y)))
  replace R := R.row (opv ⟨A0', n0, c0', A1', n1, c1', A2', n2, c2', A3', n3, c3'⟩ (dn a n0 xs (worded ⟨kind, addr, err, aad, used, 5, shard, sought, (lf : Int), bit, word, full, 0, tries, item, stamp⟩ y)))
  replace L' := L'.set_row hRlo (opv ⟨A0', n0, c0', A1', n1, c1', A2', n2, c2', A3', n3, c3'⟩ (dn a n0 xs (worded ⟨kind, addr, err, aad, used, 5, shard, sought, (lf : Int), bit, word, full, 0, tries, item, stamp⟩ y)))
  replace U' := U'.set_row hRs2 (opv ⟨A0', n0, c0', A1', n1, c1', A2', n2, c2', A3', n3, c3'⟩ (dn a n0 xs (worded ⟨kind, addr, err, aad, used, 5, shard, sought, (lf : Int), bit, word, full, 0, tries, item, stamp⟩ y)))
  replace K := below_setRow K R_b (opv ⟨A0', n0, c0', A1', n1, c1', A2', n2, c2', A3', n3, c3'⟩ (dn a n0 xs (worded ⟨kind, addr, err, aad, used, 5, shard, sought, (lf : Int), bit, word, full, 0, tries, item, stamp⟩ y)))
  generalize w8.setRow gR (opv ⟨A0', n0, c0', A1', n1, c1', A2', n2, c2', A3', n3, c3'⟩ (dn a n0 xs (worded ⟨kind, addr, err, aad, used, 5, shard, sought, (lf : Int), bit, word, full, 0, tries, item, stamp⟩ y))) = w9 at H O R L' U' K ⊢
  refine bodyPost_ret (v := .tuple #[.slice (some ⟨gS, 0, none⟩) m dS, .agg (opv ⟨A0', n0, c0', A1', n1, c1', A2', n2, c2', A3', n3, c3'⟩ (dn a n0 xs (worded ⟨kind, addr, err, aad, used, 5, shard, sought, (lf : Int), bit, word, full, 0, tries, item, stamp⟩ y)))]) ?_ rfl ?_
  · exact results_tc (fn := Try.f17) Try.results17 _ _ gR _ _ (0, 0) _ rfl R Try.underlying38 rfl op_sz
  exact ⟨_, _, _, _, _, _, _, _, _, _, rfl, U'.1, L'.lower KS1, (fun k hk _ b o e => by cases e; omega), K⟩
set_option maxHeartbeats 2000000 in
theorem step5_0_n (ha : a < 4294967296) (hM : Much a p M) (hn : h.n0 ≤ 65536) (hI : IS .u32 lo w h.A0 h.n0 h.c0 xs) (hin : InB a M h.n0 xs) (L : Lists lo2 w h l) (h1 : h.n1 ≤ 65536) (h2 : h.n2 ≤ 65536) (h3 : h.n3 ≤ 65536) (hU : US w B m d ys) (hm : m ≤ 65536) (hlf : s.leaf = (lf : Int)) (hlv : lf < lv M) (hcm : cl < m) (hb2 : b < 64) (hw : s.word < 18446744073709551616) (hcl : cl = lv M + lf / 64) (hb : b = lf % 64) (hat : s.at_ = 0) (hph : s.phase = 5) (heq : gt ys cl ≠ s.word) :
    Calls Try.prog 17 #[.agg #[.int .u32 a, .int .i64 p, .slice A n c, .int .i64 sh, .int .i64 wo, .int .i64 qu, .int .i64 tr], .slice B m d, .agg (opv h s)] w (RetStep h (dn a h.n0 xs (worded s (mkd s.word b s.full))) l m ys B w) := by
  have hl3 := lv_le hM.most
  have T0 := fun w (L : Lists lo2 w h l) => Lib.hid (own_any (s := s) L hn h1 h2 h3)
  have hx := Lib.hid (L.i0.uniq hI)
  have TS := fun w => Lib.hid (summaries_any (w := w) (sh := sh) (wo := wo) (qu := qu) (tr := tr) (A := A) (n := n) (c := c) (leaf := (lf : Int)) ha hM)
  have TC : ∀ (w : World) gN gE (_ : w.cell? ⟨gN, 0, none⟩ = some (.int .i64 (M : Nat))) (_ : w.cell? ⟨gE, 0, none⟩ = some (.int .i64 (lf : Nat))), Hid (Calls Try.prog 59 #[.pointer (some ⟨gN, 0, none⟩), .pointer (some ⟨gE, 0, none⟩)] w fun e w' => e = .returned (.tuple #[.int .i64 (cl : Nat), .int .i64 (b : Nat)]) ∧ w = w') := fun w gN gE hN hE => by rw [hcl, hb]; exact clo1_any hN hE hM.most (by omega)
  have TM := fun w => Lib.hid (marked_any s.word b s.full hw hb2 w)
  have hy := mkd_lt s.full hw hb2
  obtain ⟨y, hy1⟩ : ∃ y, y = mkd s.word b s.full := ⟨_, rfl⟩
  rw [← hy1] at TM hy
  have TD := fun w lo A0 c0 A1 c1 A2 c2 A3 c3 (hI : IS .u32 lo w A0 h.n0 c0 xs) => Lib.hid (done_any (w := w) (sh := sh) (wo := wo) (qu := qu) (tr := tr) (A := A) (n := n) (c := c) (h := ⟨A0, h.n0, c0, A1, h.n1, c1, A2, h.n2, c2, A3, h.n3, c3⟩) (s := worded s y) ha hM hn hI hin)
  rw [← hy1]
  clear hy1
  have TW := fun w (U : US w B m d ys) => Lib.hid (swap_same (v := y) U hcm heq)
  clear heq
  clear hcl hb
  rcases s with ⟨kind, addr, err, aad, used, phase, shard, sought, leaf, bit, word, full, at_, tries, item, stamp⟩
  rcases h with ⟨A0, n0, c0, A1, n1, c1, A2, n2, c2, A3, n3, c3⟩
  dsimp only at *
  subst hlf hat hph
  go_enter Try.func17, Try.ntmps17
  go_upto_region 1 with (fail)
  have K := below_alloc w (.cells #[.int .u32 a, .int .i64 p, .slice A n c, .int .i64 sh, .int .i64 wo, .int .i64 qu, .int .i64 tr] 27)
  have H : Bk (World.alloc (w) (.cells #[.int .u32 a, .int .i64 p, .slice A n c, .int .i64 sh, .int .i64 wo, .int .i64 qu, .int .i64 tr] 27)) (World.heap (w)).size 27 (#[.int .u32 a, .int .i64 p, .slice A n c, .int .i64 sh, .int .i64 wo, .int .i64 qu, .int .i64 tr]) := Bk.new _ _ _
  replace H := H.alloc (.cells (opv ⟨A0, n0, c0, A1, n1, c1, A2, n2, c2, A3, n3, c3⟩ ⟨kind, addr, err, aad, used, 5, shard, sought, (lf : Int), bit, word, full, 0, tries, item, stamp⟩) 38)
  replace K := Below.then_ K (below_alloc _ (.cells (opv ⟨A0, n0, c0, A1, n1, c1, A2, n2, c2, A3, n3, c3⟩ ⟨kind, addr, err, aad, used, 5, shard, sought, (lf : Int), bit, word, full, 0, tries, item, stamp⟩) 38))
  have O : Bk (World.alloc ((w).alloc (.cells #[.int .u32 a, .int .i64 p, .slice A n c, .int .i64 sh, .int .i64 wo, .int .i64 qu, .int .i64 tr] 27)) (.cells (opv ⟨A0, n0, c0, A1, n1, c1, A2, n2, c2, A3, n3, c3⟩ ⟨kind, addr, err, aad, used, 5, shard, sought, (lf : Int), bit, word, full, 0, tries, item, stamp⟩) 38)) (World.heap ((w).alloc (.cells #[.int .u32 a, .int .i64 p, .slice A n c, .int .i64 sh, .int .i64 wo, .int .i64 qu, .int .i64 tr] 27))).size 38 (opv ⟨A0, n0, c0, A1, n1, c1, A2, n2, c2, A3, n3, c3⟩ ⟨kind, addr, err, aad, used, 5, shard, sought, (lf : Int), bit, word, full, 0, tries, item, stamp⟩) := Bk.new _ _ _
  replace H := H.alloc (.cells #[.int .i64 0, .int .u32 0, .slice none 0 0, .int .i64 0, .int .u32 0, .bool false, .slice none 0 0, .slice none 0 0, .int .i64 0, .int .i64 0, .int .i64 0, .int .i64 0, .int .i64 0, .int .u64 0, .bool false, .slice none 0 0, .int .i64 0, .int .i64 0, .int .i64 0, .int .i64 0] 38)
  replace O := O.alloc (.cells #[.int .i64 0, .int .u32 0, .slice none 0 0, .int .i64 0, .int .u32 0, .bool false, .slice none 0 0, .slice none 0 0, .int .i64 0, .int .i64 0, .int .i64 0, .int .i64 0, .int .i64 0, .int .u64 0, .bool false, .slice none 0 0, .int .i64 0, .int .i64 0, .int .i64 0, .int .i64 0] 38)
  replace K := Below.then_ K (below_alloc _ (.cells #[.int .i64 0, .int .u32 0, .slice none 0 0, .int .i64 0, .int .u32 0, .bool false, .slice none 0 0, .slice none 0 0, .int .i64 0, .int .i64 0, .int .i64 0, .int .i64 0, .int .i64 0, .int .u64 0, .bool false, .slice none 0 0, .int .i64 0, .int .i64 0, .int .i64 0, .int .i64 0] 38))
  have R : Bk (World.alloc (((w).alloc (.cells #[.int .u32 a, .int .i64 p, .slice A n c, .int .i64 sh, .int .i64 wo, .int .i64 qu, .int .i64 tr] 27)).alloc (.cells (opv ⟨A0, n0, c0, A1, n1, c1, A2, n2, c2, A3, n3, c3⟩ ⟨kind, addr, err, aad, used, 5, shard, sought, (lf : Int), bit, word, full, 0, tries, item, stamp⟩) 38)) (.cells #[.int .i64 0, .int .u32 0, .slice none 0 0, .int .i64 0, .int .u32 0, .bool false, .slice none 0 0, .slice none 0 0, .int .i64 0, .int .i64 0, .int .i64 0, .int .i64 0, .int .i64 0, .int .u64 0, .bool false, .slice none 0 0, .int .i64 0, .int .i64 0, .int .i64 0, .int .i64 0] 38)) (World.heap (((w).alloc (.cells #[.int .u32 a, .int .i64 p, .slice A n c, .int .i64 sh, .int .i64 wo, .int .i64 qu, .int .i64 tr] 27)).alloc (.cells (opv ⟨A0, n0, c0, A1, n1, c1, A2, n2, c2, A3, n3, c3⟩ ⟨kind, addr, err, aad, used, 5, shard, sought, (lf : Int), bit, word, full, 0, tries, item, stamp⟩) 38))).size 38 (opv hd0 sc0) := Bk.new _ _ _
  try simp only [World.size_alloc] at H O R
  generalize (((w).alloc (.cells #[.int .u32 a, .int .i64 p, .slice A n c, .int .i64 sh, .int .i64 wo, .int .i64 qu, .int .i64 tr] 27)).alloc (.cells (opv ⟨A0, n0, c0, A1, n1, c1, A2, n2, c2, A3, n3, c3⟩ ⟨kind, addr, err, aad, used, 5, shard, sought, (lf : Int), bit, word, full, 0, tries, item, stamp⟩) 38)).alloc (.cells #[.int .i64 0, .int .u32 0, .slice none 0 0, .int .i64 0, .int .u32 0, .bool false, .slice none 0 0, .slice none 0 0, .int .i64 0, .int .i64 0, .int .i64 0, .int .i64 0, .int .i64 0, .int .u64 0, .bool false, .slice none 0 0, .int .i64 0, .int .i64 0, .int .i64 0, .int .i64 0] 38) = w1 at H O R K ⊢
  obtain ⟨gR, hgR⟩ : ∃ g, g = w.heap.size + 1 + 1 := ⟨_, rfl⟩
  rw [← hgR] at R ⊢
  obtain ⟨gO, hgO⟩ : ∃ g, g = w.heap.size + 1 := ⟨_, rfl⟩
  rw [← hgO] at O ⊢
  obtain ⟨gH, hgH⟩ : ∃ g, g = w.heap.size := ⟨_, rfl⟩
  rw [← hgH] at H ⊢
  have H_b : w.heap.size ≤ gH := by omega
  have O_b : w.heap.size ≤ gO := by omega
  have R_b : w.heap.size ≤ gR := by omega
  have ne_H_O : gH ≠ gO := by omega
  have ne_H_R : gH ≠ gR := by omega
  have ne_O_R : gO ≠ gR := by omega
  clear hgH hgO hgR
  go_wp2_with (refine wpList_load_row rfl 38 (.tmp 5) rfl gO rfl _ _ (0, 0) _ O Try.underlying38 rfl op_sz ?_)
  refine ((T0 _ (L.below K)).out).mono ?_
  have hOlo := O.lt
  have hRlo := R.lt
  have KS1 := K.size
  rintro e w2 ⟨A0', c0', A1', c1', A2', c2', A3', c3', rfl, L', K'⟩
  replace H := H.below K'
  replace O := O.below K'
  replace R := R.below K'
  replace K := Below.then_ K K'
  clear K'
  generalize w1.heap.size = lo1 at L' hOlo hRlo KS1
  go_upto_region 2 with (refine wpList_store_row rfl 38 (.tmp 5) (.tmp 13) rfl gO _ rfl rfl _ _ O op_sz rfl (opv_one _ _) ?_)
  replace H := H.row_far ne_H_O (opv ⟨A0', n0, c0', A1', n1, c1', A2', n2, c2', A3', n3, c3'⟩ ⟨kind, addr, err, aad, used, 5, shard, sought, (lf : Int), bit, word, full, 0, tries, item, stamp⟩)
  replace R := R.row_far (Ne.symm ne_O_R) (opv ⟨A0', n0, c0', A1', n1, c1', A2', n2, c2', A3', n3, c3'⟩ ⟨kind, addr, err, aad, used, 5, shard, sought, (lf : Int), bit, word, full, 0, tries, item, stamp⟩)
  replace O := O.row (opv ⟨A0', n0, c0', A1', n1, c1', A2', n2, c2', A3', n3, c3'⟩ ⟨kind, addr, err, aad, used, 5, shard, sought, (lf : Int), bit, word, full, 0, tries, item, stamp⟩)
  replace L' := L'.set_row hOlo (opv ⟨A0', n0, c0', A1', n1, c1', A2', n2, c2', A3', n3, c3'⟩ ⟨kind, addr, err, aad, used, 5, shard, sought, (lf : Int), bit, word, full, 0, tries, item, stamp⟩)
  replace K := below_setRow K O_b (opv ⟨A0', n0, c0', A1', n1, c1', A2', n2, c2', A3', n3, c3'⟩ ⟨kind, addr, err, aad, used, 5, shard, sought, (lf : Int), bit, word, full, 0, tries, item, stamp⟩)
  generalize w2.setRow gO (opv ⟨A0', n0, c0', A1', n1, c1', A2', n2, c2', A3', n3, c3'⟩ ⟨kind, addr, err, aad, used, 5, shard, sought, (lf : Int), bit, word, full, 0, tries, item, stamp⟩) = w3 at H O R L' K ⊢
  have O_11 := O.at_ (v := .int .i64 (lf : Int)) 11 rfl
  have O_z := O.lt
  go_wp2_with (refine wpList_load_row rfl 27 (.tmp 3) rfl gH rfl _ _ (0, 0) _ H Try.underlying27 rfl cf_sz ?_)
  refine ((TS _).out).mono ?_
  rintro e w4 ⟨gN, gE, rfl, N, E, hgN, hgE, K'⟩
  clear O_11 O_z hgN hgE
  replace H := H.below K'
  replace O := O.below K'
  replace R := R.below K'
  replace L' := L'.below K'
  replace K := Below.then_ K K'
  clear K'
  have H_lt := H.lt
  have O_lt := O.lt
  have R_lt := R.lt
  have N_lt := N.lt
  have E_lt := E.lt
  have KS := K.size
  go_upto_region 3 with (refine wpList_store_row rfl 70 (.tmp 8) (.tmp 17) rfl _ _ rfl rfl _ _ (Bk.new _ _ _) ar_sz rfl (ar_one _ _) ?_)
  rw [World.setRow_alloc_new]
  replace H := H.alloc (.cells (clos gN gE) 70)
  replace O := O.alloc (.cells (clos gN gE) 70)
  replace R := R.alloc (.cells (clos gN gE) 70)
  replace N := N.alloc (.cells (clos gN gE) 70)
  replace E := E.alloc (.cells (clos gN gE) 70)
  replace L' := L'.below (below_alloc _ (.cells (clos gN gE) 70))
  replace K := Below.then_ K (below_alloc _ (.cells (clos gN gE) 70))
  have V : Bk (World.alloc (w4) (.cells (clos gN gE) 70)) (World.heap (w4)).size 70 (clos gN gE) := Bk.new _ _ _
  try simp only [World.size_alloc] at V
  generalize (w4).alloc (.cells (clos gN gE) 70) = w5 at H O R N E V L' K ⊢
  obtain ⟨gV, hgV⟩ : ∃ g, g = w4.heap.size := ⟨_, rfl⟩
  rw [← hgV] at V ⊢
  have V_b : w.heap.size ≤ gV := by have := KS; omega
  have ne_H_V : gH ≠ gV := by have := H_lt; omega
  have ne_O_V : gO ≠ gV := by have := O_lt; omega
  have ne_R_V : gR ≠ gV := by have := R_lt; omega
  have ne_N_V : gN ≠ gV := by have := N_lt; omega
  have ne_E_V : gE ≠ gV := by have := E_lt; omega
  clear hgV
  clear H_lt O_lt R_lt N_lt E_lt KS
  have O_16 := O.at_ (v := .int .i64 0) 16 rfl
  have O_z := O.lt
  have V_0 := V.at_ (v := .func (.func 59) #[] #[.pointer (some ⟨gN, 0, none⟩), .pointer (some ⟨gE, 0, none⟩)]) 0 rfl
  have V_z := V.lt
  go_upto_region 6 with ((with_reducible refine ((TC _ _ _ (N.at_ (v := .int .i64 M) 0 rfl) (E.at_ (v := .int .i64 lf) 0 rfl)).out).mono ?_); rintro e w' ⟨rfl, rfl⟩)
  clear O_16 O_z V_0 V_z N E V ne_H_V ne_O_V ne_R_V ne_N_V ne_E_V V_b TC TS T0
  have O_8 := O.at_ (v := .int .i64 5) 8 rfl
  have O_z := O.lt
  go_upto_region 10 with (fail)
  clear O_8 O_z
  have O_13 := O.at_ (v := .int .u64 ((word : Nat) : Int)) 13 rfl
  have O_14 := O.at_ (v := .bool (full)) 14 rfl
  have O_z := O.lt
  go_upto_region 11 with ((with_reducible refine ((TM _).out).mono ?_); rintro e w' ⟨rfl, rfl⟩)
  go_wp2_with fail
  refine ((TW _ (hU.below K)).out).mono ?_
  have hOs := O.lt
  have hRs := R.lt
  rintro e w6 ⟨rfl, K'⟩
  clear O_13 O_14 O_z
  replace H := H.below K'
  replace O := O.below K'
  replace R := R.below K'
  replace L' := L'.below K'
  replace K := Below.then_ K K'
  clear K'
  clear hOs hRs
  have O_13 := O.at_ (v := .int .u64 ((word : Nat) : Int)) 13 rfl
  have O_z := O.lt
  have O_f13 := O.fz 13
  go_upto_region 13 with (fail)
  replace H := H.far (p := ⟨gO, 13, none⟩) ne_H_O (.int .u64 (y : Nat))
  replace R := R.far (p := ⟨gO, 13, none⟩) (Ne.symm ne_O_R) (.int .u64 (y : Nat))
  replace O := O.set_ 13 (.int .u64 (y : Nat))
  replace L' := L'.set_low (p := ⟨gO, 13, none⟩) hOlo (.int .u64 (y : Nat))
  replace K := K.setCell (p := ⟨gO, 13, none⟩) O_b (.int .u64 (y : Nat))
  replace O : Bk ((w6).setCell ⟨gO, 13, none⟩ (.int .u64 (y : Nat))) gO 38 (opv ⟨A0', n0, c0', A1', n1, c1', A2', n2, c2', A3', n3, c3'⟩ (worded ⟨kind, addr, err, aad, used, 5, shard, sought, (lf : Int), bit, word, full, 0, tries, item, stamp⟩ y)) := O
  clear O_13 O_z O_f13
  generalize (w6).setCell ⟨gO, 13, none⟩ (.int .u64 (y : Nat)) = w7 at H O R L' K ⊢
  go_wp2_with (first | (refine wpList_load_row rfl 27 (.tmp 3) rfl gH rfl _ _ (0, 0) _ H Try.underlying27 rfl cf_sz ?_) | (refine wpList_load_row rfl 38 (.tmp 5) rfl gO rfl _ _ (0, 0) _ O Try.underlying38 rfl op_sz ?_))
  refine ((TD _ _ A0' c0' A1' c1' A2' c2' A3' c3' (L'.asked hx.out)).out).mono ?_
  rintro e w8 ⟨rfl, K'⟩
  replace H := H.below K'
  replace O := O.below K'
  replace R := R.below K'
  replace L' := L'.below K'
  replace K := Below.then_ K K'
  clear K'
  go_wp2_with (refine wpList_store_row rfl 38 (.tmp 7) (.tmp 70) rfl gR _ rfl rfl _ _ R op_sz rfl (opv_one _ _) ?_)
  replace H := H.row_far ne_H_R (opv ⟨A0', n0, c0', A1', n1, c1', A2', n2, c2', A3', n3, c3'⟩ (dn a n0 xs (worded ⟨kind, addr, err, aad, used, 5, shard, sought, (lf : Int), bit, word, full, 0, tries, item, stamp⟩ y)))
  replace O := O.row_far ne_O_R (opv ⟨A0', n0, c0', A1', n1, c1', A2', n2, c2', A3', n3, c3'⟩ (dn a n0 xs (worded ⟨kind, addr, err, aad, used, 5, shard, sought, (lf : Int), bit, word, full, 0, tries, item, stamp⟩ y)))
  replace R := R.row (opv ⟨A0', n0, c0', A1', n1, c1', A2', n2, c2', A3', n3, c3'⟩ (dn a n0 xs (worded ⟨kind, addr, err, aad, used, 5, shard, sought, (lf : Int), bit, word, full, 0, tries, item, stamp⟩ y)))
  replace L' := L'.set_row hRlo (opv ⟨A0', n0, c0', A1', n1, c1', A2', n2, c2', A3', n3, c3'⟩ (dn a n0 xs (worded ⟨kind, addr, err, aad, used, 5, shard, sought, (lf : Int), bit, word, full, 0, tries, item, stamp⟩ y)))
  replace K := below_setRow K R_b (opv ⟨A0', n0, c0', A1', n1, c1', A2', n2, c2', A3', n3, c3'⟩ (dn a n0 xs (worded ⟨kind, addr, err, aad, used, 5, shard, sought, (lf : Int), bit, word, full, 0, tries, item, stamp⟩ y)))
  generalize w8.setRow gR (opv ⟨A0', n0, c0', A1', n1, c1', A2', n2, c2', A3', n3, c3'⟩ (dn a n0 xs (worded ⟨kind, addr, err, aad, used, 5, shard, sought, (lf : Int), bit, word, full, 0, tries, item, stamp⟩ y))) = w9 at H O R L' K ⊢
  refine bodyPost_ret (v := .tuple #[.slice B m d, .agg (opv ⟨A0', n0, c0', A1', n1, c1', A2', n2, c2', A3', n3, c3'⟩ (dn a n0 xs (worded ⟨kind, addr, err, aad, used, 5, shard, sought, (lf : Int), bit, word, full, 0, tries, item, stamp⟩ y)))]) ?_ rfl ?_
  · exact results_tc (fn := Try.f17) Try.results17 _ _ gR _ _ (0, 0) _ rfl R Try.underlying38 rfl op_sz
  exact ⟨_, _, _, _, _, _, _, _, _, _, rfl, hU.below K, L'.lower KS1, (fun _ _ h => h), K⟩
set_option maxHeartbeats 2000000 in
theorem step4_1 (ha : a < 4294967296) (hM : Much a p M) (hn : h.n0 ≤ 65536) (hI : IS .u32 lo w h.A0 h.n0 h.c0 xs) (hin : InB a M h.n0 xs) (L : Lists lo2 w h l) (h1 : h.n1 ≤ 65536) (h2 : h.n2 ≤ 65536) (h3 : h.n3 ≤ 65536) (hU : US w B m d ys) (hm : m ≤ 65536) (hlf : s.leaf = (lf : Int)) (hlv : lf < lv M) (hcm : cl < m) (hb2 : b < 64) (hw : s.word < 18446744073709551616) (hcl : cl = lv M + tv M) (hb : b = lf / 64) (hat : s.at_ = 1) (hph : s.phase = 4) :
    Calls Try.prog 17 #[.agg #[.int .u32 a, .int .i64 p, .slice A n c, .int .i64 sh, .int .i64 wo, .int .i64 qu, .int .i64 tr], .slice B m d, .agg (opv h s)] w (RetStep h (lk a h.n0 xs s (gt ys cl) b) l m ys B w) := by
  have hl3 := lv_le hM.most
  have T0 := fun w (L : Lists lo2 w h l) => Lib.hid (own_any (s := s) L hn h1 h2 h3)
  have hx := Lib.hid (L.i0.uniq hI)
  have TS := fun w => Lib.hid (summaries_any (w := w) (sh := sh) (wo := wo) (qu := qu) (tr := tr) (A := A) (n := n) (c := c) (leaf := (lf : Int)) ha hM)
  have TC : ∀ (w : World) gN gE (_ : w.cell? ⟨gN, 0, none⟩ = some (.int .i64 (M : Nat))) (_ : w.cell? ⟨gE, 0, none⟩ = some (.int .i64 (lf : Nat))), Hid (Calls Try.prog 61 #[.pointer (some ⟨gN, 0, none⟩), .pointer (some ⟨gE, 0, none⟩)] w fun e w' => e = .returned (.tuple #[.int .i64 (cl : Nat), .int .i64 (b : Nat)]) ∧ w = w') := fun w gN gE hN hE => by rw [hcl, hb]; exact clo2_any hN hE hM.most (by omega)
  have TK := fun w lo A0 c0 A1 c1 A2 c2 A3 c3 (hI : IS .u32 lo w A0 h.n0 c0 xs) => Lib.hid (look_any (w := w) (sh := sh) (wo := wo) (qu := qu) (tr := tr) (A := A) (n := n) (c := c) (h := ⟨A0, h.n0, c0, A1, h.n1, c1, A2, h.n2, c2, A3, h.n3, c3⟩) (s := s) (x := gt ys cl) (b := b) ha hM hn hI hin (gt_lt hU.fit cl) hb2)
  have TL := fun w (U : US w B m d ys) => Lib.hid (load_nat U cl hcm)
  clear hcl hb
  rcases s with ⟨kind, addr, err, aad, used, phase, shard, sought, leaf, bit, word, full, at_, tries, item, stamp⟩
  rcases h with ⟨A0, n0, c0, A1, n1, c1, A2, n2, c2, A3, n3, c3⟩
  dsimp only at *
  subst hlf hat hph
  go_enter Try.func17, Try.ntmps17
  go_upto_region 1 with (fail)
  have K := below_alloc w (.cells #[.int .u32 a, .int .i64 p, .slice A n c, .int .i64 sh, .int .i64 wo, .int .i64 qu, .int .i64 tr] 27)
  have H : Bk (World.alloc (w) (.cells #[.int .u32 a, .int .i64 p, .slice A n c, .int .i64 sh, .int .i64 wo, .int .i64 qu, .int .i64 tr] 27)) (World.heap (w)).size 27 (#[.int .u32 a, .int .i64 p, .slice A n c, .int .i64 sh, .int .i64 wo, .int .i64 qu, .int .i64 tr]) := Bk.new _ _ _
  replace H := H.alloc (.cells (opv ⟨A0, n0, c0, A1, n1, c1, A2, n2, c2, A3, n3, c3⟩ ⟨kind, addr, err, aad, used, 4, shard, sought, (lf : Int), bit, word, full, 1, tries, item, stamp⟩) 38)
  replace K := Below.then_ K (below_alloc _ (.cells (opv ⟨A0, n0, c0, A1, n1, c1, A2, n2, c2, A3, n3, c3⟩ ⟨kind, addr, err, aad, used, 4, shard, sought, (lf : Int), bit, word, full, 1, tries, item, stamp⟩) 38))
  have O : Bk (World.alloc ((w).alloc (.cells #[.int .u32 a, .int .i64 p, .slice A n c, .int .i64 sh, .int .i64 wo, .int .i64 qu, .int .i64 tr] 27)) (.cells (opv ⟨A0, n0, c0, A1, n1, c1, A2, n2, c2, A3, n3, c3⟩ ⟨kind, addr, err, aad, used, 4, shard, sought, (lf : Int), bit, word, full, 1, tries, item, stamp⟩) 38)) (World.heap ((w).alloc (.cells #[.int .u32 a, .int .i64 p, .slice A n c, .int .i64 sh, .int .i64 wo, .int .i64 qu, .int .i64 tr] 27))).size 38 (opv ⟨A0, n0, c0, A1, n1, c1, A2, n2, c2, A3, n3, c3⟩ ⟨kind, addr, err, aad, used, 4, shard, sought, (lf : Int), bit, word, full, 1, tries, item, stamp⟩) := Bk.new _ _ _
  replace H := H.alloc (.cells #[.int .i64 0, .int .u32 0, .slice none 0 0, .int .i64 0, .int .u32 0, .bool false, .slice none 0 0, .slice none 0 0, .int .i64 0, .int .i64 0, .int .i64 0, .int .i64 0, .int .i64 0, .int .u64 0, .bool false, .slice none 0 0, .int .i64 0, .int .i64 0, .int .i64 0, .int .i64 0] 38)
  replace O := O.alloc (.cells #[.int .i64 0, .int .u32 0, .slice none 0 0, .int .i64 0, .int .u32 0, .bool false, .slice none 0 0, .slice none 0 0, .int .i64 0, .int .i64 0, .int .i64 0, .int .i64 0, .int .i64 0, .int .u64 0, .bool false, .slice none 0 0, .int .i64 0, .int .i64 0, .int .i64 0, .int .i64 0] 38)
  replace K := Below.then_ K (below_alloc _ (.cells #[.int .i64 0, .int .u32 0, .slice none 0 0, .int .i64 0, .int .u32 0, .bool false, .slice none 0 0, .slice none 0 0, .int .i64 0, .int .i64 0, .int .i64 0, .int .i64 0, .int .i64 0, .int .u64 0, .bool false, .slice none 0 0, .int .i64 0, .int .i64 0, .int .i64 0, .int .i64 0] 38))
  have R : Bk (World.alloc (((w).alloc (.cells #[.int .u32 a, .int .i64 p, .slice A n c, .int .i64 sh, .int .i64 wo, .int .i64 qu, .int .i64 tr] 27)).alloc (.cells (opv ⟨A0, n0, c0, A1, n1, c1, A2, n2, c2, A3, n3, c3⟩ ⟨kind, addr, err, aad, used, 4, shard, sought, (lf : Int), bit, word, full, 1, tries, item, stamp⟩) 38)) (.cells #[.int .i64 0, .int .u32 0, .slice none 0 0, .int .i64 0, .int .u32 0, .bool false, .slice none 0 0, .slice none 0 0, .int .i64 0, .int .i64 0, .int .i64 0, .int .i64 0, .int .i64 0, .int .u64 0, .bool false, .slice none 0 0, .int .i64 0, .int .i64 0, .int .i64 0, .int .i64 0] 38)) (World.heap (((w).alloc (.cells #[.int .u32 a, .int .i64 p, .slice A n c, .int .i64 sh, .int .i64 wo, .int .i64 qu, .int .i64 tr] 27)).alloc (.cells (opv ⟨A0, n0, c0, A1, n1, c1, A2, n2, c2, A3, n3, c3⟩ ⟨kind, addr, err, aad, used, 4, shard, sought, (lf : Int), bit, word, full, 1, tries, item, stamp⟩) 38))).size 38 (opv hd0 sc0) := Bk.new _ _ _
  try simp only [World.size_alloc] at H O R
  generalize (((w).alloc (.cells #[.int .u32 a, .int .i64 p, .slice A n c, .int .i64 sh, .int .i64 wo, .int .i64 qu, .int .i64 tr] 27)).alloc (.cells (opv ⟨A0, n0, c0, A1, n1, c1, A2, n2, c2, A3, n3, c3⟩ ⟨kind, addr, err, aad, used, 4, shard, sought, (lf : Int), bit, word, full, 1, tries, item, stamp⟩) 38)).alloc (.cells #[.int .i64 0, .int .u32 0, .slice none 0 0, .int .i64 0, .int .u32 0, .bool false, .slice none 0 0, .slice none 0 0, .int .i64 0, .int .i64 0, .int .i64 0, .int .i64 0, .int .i64 0, .int .u64 0, .bool false, .slice none 0 0, .int .i64 0, .int .i64 0, .int .i64 0, .int .i64 0] 38) = w1 at H O R K ⊢
  obtain ⟨gR, hgR⟩ : ∃ g, g = w.heap.size + 1 + 1 := ⟨_, rfl⟩
  rw [← hgR] at R ⊢
  obtain ⟨gO, hgO⟩ : ∃ g, g = w.heap.size + 1 := ⟨_, rfl⟩
  rw [← hgO] at O ⊢
  obtain ⟨gH, hgH⟩ : ∃ g, g = w.heap.size := ⟨_, rfl⟩
  rw [← hgH] at H ⊢
  have H_b : w.heap.size ≤ gH := by omega
  have O_b : w.heap.size ≤ gO := by omega
  have R_b : w.heap.size ≤ gR := by omega
  have ne_H_O : gH ≠ gO := by omega
  have ne_H_R : gH ≠ gR := by omega
  have ne_O_R : gO ≠ gR := by omega
  clear hgH hgO hgR
  go_wp2_with (refine wpList_load_row rfl 38 (.tmp 5) rfl gO rfl _ _ (0, 0) _ O Try.underlying38 rfl op_sz ?_)
  refine ((T0 _ (L.below K)).out).mono ?_
  have hOlo := O.lt
  have hRlo := R.lt
  have KS1 := K.size
  rintro e w2 ⟨A0', c0', A1', c1', A2', c2', A3', c3', rfl, L', K'⟩
  replace H := H.below K'
  replace O := O.below K'
  replace R := R.below K'
  replace K := Below.then_ K K'
  clear K'
  generalize w1.heap.size = lo1 at L' hOlo hRlo KS1
  go_upto_region 2 with (refine wpList_store_row rfl 38 (.tmp 5) (.tmp 13) rfl gO _ rfl rfl _ _ O op_sz rfl (opv_one _ _) ?_)
  replace H := H.row_far ne_H_O (opv ⟨A0', n0, c0', A1', n1, c1', A2', n2, c2', A3', n3, c3'⟩ ⟨kind, addr, err, aad, used, 4, shard, sought, (lf : Int), bit, word, full, 1, tries, item, stamp⟩)
  replace R := R.row_far (Ne.symm ne_O_R) (opv ⟨A0', n0, c0', A1', n1, c1', A2', n2, c2', A3', n3, c3'⟩ ⟨kind, addr, err, aad, used, 4, shard, sought, (lf : Int), bit, word, full, 1, tries, item, stamp⟩)
  replace O := O.row (opv ⟨A0', n0, c0', A1', n1, c1', A2', n2, c2', A3', n3, c3'⟩ ⟨kind, addr, err, aad, used, 4, shard, sought, (lf : Int), bit, word, full, 1, tries, item, stamp⟩)
  replace L' := L'.set_row hOlo (opv ⟨A0', n0, c0', A1', n1, c1', A2', n2, c2', A3', n3, c3'⟩ ⟨kind, addr, err, aad, used, 4, shard, sought, (lf : Int), bit, word, full, 1, tries, item, stamp⟩)
  replace K := below_setRow K O_b (opv ⟨A0', n0, c0', A1', n1, c1', A2', n2, c2', A3', n3, c3'⟩ ⟨kind, addr, err, aad, used, 4, shard, sought, (lf : Int), bit, word, full, 1, tries, item, stamp⟩)
  generalize w2.setRow gO (opv ⟨A0', n0, c0', A1', n1, c1', A2', n2, c2', A3', n3, c3'⟩ ⟨kind, addr, err, aad, used, 4, shard, sought, (lf : Int), bit, word, full, 1, tries, item, stamp⟩) = w3 at H O R L' K ⊢
  have O_11 := O.at_ (v := .int .i64 (lf : Int)) 11 rfl
  have O_z := O.lt
  go_wp2_with (refine wpList_load_row rfl 27 (.tmp 3) rfl gH rfl _ _ (0, 0) _ H Try.underlying27 rfl cf_sz ?_)
  refine ((TS _).out).mono ?_
  rintro e w4 ⟨gN, gE, rfl, N, E, hgN, hgE, K'⟩
  clear O_11 O_z hgN hgE
  replace H := H.below K'
  replace O := O.below K'
  replace R := R.below K'
  replace L' := L'.below K'
  replace K := Below.then_ K K'
  clear K'
  have H_lt := H.lt
  have O_lt := O.lt
  have R_lt := R.lt
  have N_lt := N.lt
  have E_lt := E.lt
  have KS := K.size
  go_upto_region 3 with (refine wpList_store_row rfl 70 (.tmp 8) (.tmp 17) rfl _ _ rfl rfl _ _ (Bk.new _ _ _) ar_sz rfl (ar_one _ _) ?_)
  rw [World.setRow_alloc_new]
  replace H := H.alloc (.cells (clos gN gE) 70)
  replace O := O.alloc (.cells (clos gN gE) 70)
  replace R := R.alloc (.cells (clos gN gE) 70)
  replace N := N.alloc (.cells (clos gN gE) 70)
  replace E := E.alloc (.cells (clos gN gE) 70)
  replace L' := L'.below (below_alloc _ (.cells (clos gN gE) 70))
  replace K := Below.then_ K (below_alloc _ (.cells (clos gN gE) 70))
  have V : Bk (World.alloc (w4) (.cells (clos gN gE) 70)) (World.heap (w4)).size 70 (clos gN gE) := Bk.new _ _ _
  try simp only [World.size_alloc] at V
  generalize (w4).alloc (.cells (clos gN gE) 70) = w5 at H O R N E V L' K ⊢
  obtain ⟨gV, hgV⟩ : ∃ g, g = w4.heap.size := ⟨_, rfl⟩
  rw [← hgV] at V ⊢
  have V_b : w.heap.size ≤ gV := by have := KS; omega
  have ne_H_V : gH ≠ gV := by have := H_lt; omega
  have ne_O_V : gO ≠ gV := by have := O_lt; omega
  have ne_R_V : gR ≠ gV := by have := R_lt; omega
  have ne_N_V : gN ≠ gV := by have := N_lt; omega
  have ne_E_V : gE ≠ gV := by have := E_lt; omega
  clear hgV
  clear H_lt O_lt R_lt N_lt E_lt KS
  have O_16 := O.at_ (v := .int .i64 1) 16 rfl
  have O_z := O.lt
  have V_1 := V.at_ (v := .func (.func 61) #[] #[.pointer (some ⟨gN, 0, none⟩), .pointer (some ⟨gE, 0, none⟩)]) 1 rfl
  have V_z := V.lt
  go_upto_region 6 with ((with_reducible refine ((TC _ _ _ (N.at_ (v := .int .i64 M) 0 rfl) (E.at_ (v := .int .i64 lf) 0 rfl)).out).mono ?_); rintro e w' ⟨rfl, rfl⟩)
  clear O_16 O_z V_1 V_z N E V ne_H_V ne_O_V ne_R_V ne_N_V ne_E_V V_b TC TS T0
  have O_8 := O.at_ (v := .int .i64 4) 8 rfl
  have O_z := O.lt
  go_upto_region 8 with (fail)
  clear O_8 O_z
  refine wp_region_held_drew (S := fun w' => Below w.heap.size w w' ∧ Bk w' gH 27 (#[.int .u32 a, .int .i64 p, .slice A n c, .int .i64 sh, .int .i64 wo, .int .i64 qu, .int .i64 tr]) ∧ Bk w' gO 38 (opv ⟨A0', n0, c0', A1', n1, c1', A2', n2, c2', A3', n3, c3'⟩ ⟨kind, addr, err, aad, used, 4, shard, sought, (lf : Int), bit, word, full, 1, tries, item, stamp⟩) ∧ (∃ v : Array Value, v.size = 20 ∧ Bk w' gR 38 v) ∧ Lists lo1 w' ⟨A0', n0, c0', A1', n1, c1', A2', n2, c2', A3', n3, c3'⟩ l ∧ True) (by kernel_rfl) ⟨K.drew, H.below ((Below.refl _ _).drew), O.below ((Below.refl _ _).drew), ⟨_, rfl, R.below ((Below.refl _ _).drew)⟩, L'.below ((Below.refl _ _).drew), trivial⟩ (fun hHeld => ?_)
  generalize w5.drew = v6 at hHeld ⊢
  refine wpAnyH_take (i := 0) (oi := ⟨some 40, _, _, _, _, _⟩) (v := ?_) rfl (by kernel_rfl) (by kernel_rfl) (by kernel_rfl) (fun _ _ _ h => h) (Or.inl ⟨by rfl, ?_⟩) hHeld ?_
  rotate_left
  · intro ww hSw
    try dsimp only at hSw
    go_simp
    try with_reducible rfl
    try omega
  try simp only [Act.put, List.setIfInBounds_toArray, List.set_cons_zero, List.set_cons_succ]
  refine wpAnyH_take (i := 1) (oi := ⟨some 41, _, _, _, _, _⟩) (v := .agg (#[.int .u32 a, .int .i64 p, .slice A n c, .int .i64 sh, .int .i64 wo, .int .i64 qu, .int .i64 tr])) rfl (by kernel_rfl) (by kernel_rfl) (by kernel_rfl) (fun _ _ _ h => h) (yieldsIf_load_row (by rfl) 27 (.tmp 3) rfl gH rfl 27 _ (0, 0) _ (fun _ hS => hS.2.1) Try.underlying27 rfl cf_sz) hHeld ?_
  try simp only [Act.put, List.setIfInBounds_toArray, List.set_cons_zero, List.set_cons_succ]
  refine wpAnyH_take (i := 2) (oi := ⟨some 42, _, _, _, _, _⟩) (v := .agg (opv ⟨A0', n0, c0', A1', n1, c1', A2', n2, c2', A3', n3, c3'⟩ ⟨kind, addr, err, aad, used, 4, shard, sought, (lf : Int), bit, word, full, 1, tries, item, stamp⟩)) rfl (by kernel_rfl) (by kernel_rfl) (by kernel_rfl) (fun _ _ _ h => h) (yieldsIf_load_row (by rfl) 38 (.tmp 5) rfl gO rfl 38 _ (0, 0) _ (fun _ hS => hS.2.2.1) Try.underlying38 rfl op_sz) hHeld ?_
  try simp only [Act.put, List.setIfInBounds_toArray, List.set_cons_zero, List.set_cons_succ]
  refine wpAnyH_take (i := 3) (oi := ⟨some 43, _, _, _, _, _⟩) (v := ?_) rfl (by kernel_rfl) (by kernel_rfl) (by kernel_rfl) (fun _ _ _ h => h) (Or.inl ⟨by rfl, ?_⟩) hHeld ?_
  rotate_left
  · intro ww hSw
    try dsimp only at hSw
    go_simp
    try with_reducible rfl
    try omega
  try simp only [Act.put, List.setIfInBounds_toArray, List.set_cons_zero, List.set_cons_succ]
  refine wpAnyH_take (i := 4) (oi := ⟨some 44, _, _, _, _, _⟩) (v := ?_) rfl (by kernel_rfl) (by kernel_rfl) (by kernel_rfl) (fun _ _ _ h => h) (Or.inl ⟨by rfl, ?_⟩) hHeld ?_
  rotate_left
  · intro ww hSw
    try dsimp only at hSw
    go_simp
    try with_reducible rfl
    try omega
  try simp only [Act.put, List.setIfInBounds_toArray, List.set_cons_zero, List.set_cons_succ]
  refine wpAnyH_take (i := 6) (oi := ⟨some 46, _, _, _, _, _⟩) (v := ?_) rfl (by kernel_rfl) (by kernel_rfl) (by kernel_rfl) (fun _ _ _ h => h) (Or.inl ⟨by rfl, ?_⟩) hHeld ?_
  rotate_left
  · intro ww hSw
    try dsimp only at hSw
    go_simp
    try with_reducible rfl
    try omega
  try simp only [Act.put, List.setIfInBounds_toArray, List.set_cons_zero, List.set_cons_succ]
  refine wpAnyH_ready (rs := [5]) (by kernel_rfl) (by simp) ?_
  refine AllReadyH.cons (o := ⟨some 45, _, _, _, _, _⟩) rfl (fun K0 hK => ?_) AllReadyH.nil
  go_simp
  refine ((TL _ (hU.below hHeld.1)).out).mono ?_
  rintro e _ ⟨rfl, rfl⟩
  refine hK.out _ _ hHeld (fun hHeld' => ?_)
  clear hHeld hK K0
  have hHeld := hHeld'
  clear hHeld'
  try simp only [Act.put, List.setIfInBounds_toArray, List.set_cons_zero, List.set_cons_succ]
  refine wpAnyH_ready (rs := [7]) (by kernel_rfl) (by simp) ?_
  refine AllReadyH.cons (o := ⟨some 47, _, _, _, _, _⟩) rfl (fun K0 hK => ?_) AllReadyH.nil
  go_simp
  refine ((TK _ _ A0' c0' A1' c1' A2' c2' A3' c3' (hHeld.2.2.2.2.1.asked hx.out)).out).mono ?_
  rintro e v7 ⟨rfl, K'⟩
  refine hK.out _ _ ⟨Below.then_ hHeld.1 K', hHeld.2.1.below K', hHeld.2.2.1.below K', ⟨_, hHeld.2.2.2.1.choose_spec.1, hHeld.2.2.2.1.choose_spec.2.below K'⟩, hHeld.2.2.2.2.1.below K', trivial⟩ (fun hHeld' => ?_)
  clear hHeld K' hK K0
  have hHeld := hHeld'
  clear hHeld'
  try simp only [Act.put, List.setIfInBounds_toArray, List.set_cons_zero, List.set_cons_succ]
  refine wpAnyH_take (i := 8) (oi := ⟨some 6, _, _, _, _, _⟩) (v := ?_) rfl (by kernel_rfl) (by kernel_rfl) (by kernel_rfl) (fun _ _ _ h => h) (Or.inl ⟨by rfl, ?_⟩) hHeld ?_
  rotate_left
  · intro ww hSw
    try dsimp only at hSw
    go_simp
    try with_reducible rfl
    try omega
  try simp only [Act.put, List.setIfInBounds_toArray, List.set_cons_zero, List.set_cons_succ]
  refine wpAnyH_ready (rs := [9]) (by kernel_rfl) (by simp) ?_
  refine AllReadyH.cons (o := ⟨none, _, _, _, _, _⟩) rfl (fun K0 hK => ?_) AllReadyH.nil
  rw [if_pos (by rfl)]
  refine wp_store_row 38 (.tmp 7) (.tmp 47) rfl gR _ rfl rfl _ _ hHeld.2.2.2.1.choose_spec.2 op_sz hHeld.2.2.2.1.choose_spec.1 (opv_one _ _) ?_
  have new_R := Bk.row hHeld.2.2.2.1.choose_spec.2 (opv ⟨A0', n0, c0', A1', n1, c1', A2', n2, c2', A3', n3, c3'⟩ (lk a n0 xs ⟨kind, addr, err, aad, used, 4, shard, sought, (lf : Int), bit, word, full, 1, tries, item, stamp⟩ (gt ys cl) b))
  refine hK.out _ _ ⟨below_setRow hHeld.1 R_b _, hHeld.2.1.row_far ne_H_R _, hHeld.2.2.1.row_far ne_O_R _, ⟨_, rfl, new_R⟩, hHeld.2.2.2.2.1.set_row hRlo _, trivial⟩ (fun hHeld' => ?_)
  clear hHeld hK K0
  have hHeld := hHeld'
  clear hHeld'
  generalize v7.setRow gR (opv ⟨A0', n0, c0', A1', n1, c1', A2', n2, c2', A3', n3, c3'⟩ (lk a n0 xs ⟨kind, addr, err, aad, used, 4, shard, sought, (lf : Int), bit, word, full, 1, tries, item, stamp⟩ (gt ys cl) b)) = v8 at hHeld new_R  ⊢
  try simp only [Act.put]
  refine wpAnyH_done (by kernel_rfl) ?_ _
  replace K := hHeld.1
  replace H := hHeld.2.1
  replace O := hHeld.2.2.1
  replace R := new_R
  clear new_R
  replace L' := hHeld.2.2.2.2.1
  clear hHeld
  go_wp2
  refine bodyPost_ret (v := .tuple #[.slice B m d, .agg (opv ⟨A0', n0, c0', A1', n1, c1', A2', n2, c2', A3', n3, c3'⟩ (lk a n0 xs ⟨kind, addr, err, aad, used, 4, shard, sought, (lf : Int), bit, word, full, 1, tries, item, stamp⟩ (gt ys cl) b))]) ?_ rfl ?_
  · exact results_tc (fn := Try.f17) Try.results17 _ _ gR _ _ (0, 0) _ rfl R Try.underlying38 rfl op_sz
  exact ⟨_, _, _, _, _, _, _, _, _, _, rfl, hU.below K, L'.lower KS1, (fun _ _ h => h), K⟩
set_option maxHeartbeats 2000000 in
theorem step5_1_y (ha : a < 4294967296) (hM : Much a p M) (hn : h.n0 ≤ 65536) (hI : IS .u32 lo w h.A0 h.n0 h.c0 xs) (hin : InB a M h.n0 xs) (L : Lists lo2 w h l) (h1 : h.n1 ≤ 65536) (h2 : h.n2 ≤ 65536) (h3 : h.n3 ≤ 65536) (hU : US w B m d ys) (hm : m ≤ 65536) (hlf : s.leaf = (lf : Int)) (hlv : lf < lv M) (hcm : cl < m) (hb2 : b < 64) (hw : s.word < 18446744073709551616) (hcl : cl = lv M + tv M) (hb : b = lf / 64) (hat : s.at_ = 1) (hph : s.phase = 5) (heq : gt ys cl = s.word) :
    Calls Try.prog 17 #[.agg #[.int .u32 a, .int .i64 p, .slice A n c, .int .i64 sh, .int .i64 wo, .int .i64 qu, .int .i64 tr], .slice B m d, .agg (opv h s)] w (RetStep h (dn a h.n0 xs (worded s (mkd s.word b s.full))) l m (ys.set cl (mkd s.word b s.full)) B w) := by
  have hl3 := lv_le hM.most
  have T0 := fun w (L : Lists lo2 w h l) => Lib.hid (own_any (s := s) L hn h1 h2 h3)
  have hx := Lib.hid (L.i0.uniq hI)
  have TS := fun w => Lib.hid (summaries_any (w := w) (sh := sh) (wo := wo) (qu := qu) (tr := tr) (A := A) (n := n) (c := c) (leaf := (lf : Int)) ha hM)
  have TC : ∀ (w : World) gN gE (_ : w.cell? ⟨gN, 0, none⟩ = some (.int .i64 (M : Nat))) (_ : w.cell? ⟨gE, 0, none⟩ = some (.int .i64 (lf : Nat))), Hid (Calls Try.prog 61 #[.pointer (some ⟨gN, 0, none⟩), .pointer (some ⟨gE, 0, none⟩)] w fun e w' => e = .returned (.tuple #[.int .i64 (cl : Nat), .int .i64 (b : Nat)]) ∧ w = w') := fun w gN gE hN hE => by rw [hcl, hb]; exact clo2_any hN hE hM.most (by omega)
  have TM := fun w => Lib.hid (marked_any s.word b s.full hw hb2 w)
  have hy := mkd_lt s.full hw hb2
  obtain ⟨y, hy1⟩ : ∃ y, y = mkd s.word b s.full := ⟨_, rfl⟩
  rw [← hy1] at TM hy
  have TD := fun w lo A0 c0 A1 c1 A2 c2 A3 c3 (hI : IS .u32 lo w A0 h.n0 c0 xs) => Lib.hid (done_any (w := w) (sh := sh) (wo := wo) (qu := qu) (tr := tr) (A := A) (n := n) (c := c) (h := ⟨A0, h.n0, c0, A1, h.n1, c1, A2, h.n2, c2, A3, h.n3, c3⟩) (s := worded s y) ha hM hn hI hin)
  rw [← hy1]
  clear hy1
  have TW := fun w (U : US w B m d ys) => Lib.hid (heq ▸ swap_new U hcm hm hy)
  clear heq
  clear hcl hb
  rcases s with ⟨kind, addr, err, aad, used, phase, shard, sought, leaf, bit, word, full, at_, tries, item, stamp⟩
  rcases h with ⟨A0, n0, c0, A1, n1, c1, A2, n2, c2, A3, n3, c3⟩
  dsimp only at *
  subst hlf hat hph
  go_enter Try.func17, Try.ntmps17
  go_upto_region 1 with (fail)
  have K := below_alloc w (.cells #[.int .u32 a, .int .i64 p, .slice A n c, .int .i64 sh, .int .i64 wo, .int .i64 qu, .int .i64 tr] 27)
  have H : Bk (World.alloc (w) (.cells #[.int .u32 a, .int .i64 p, .slice A n c, .int .i64 sh, .int .i64 wo, .int .i64 qu, .int .i64 tr] 27)) (World.heap (w)).size 27 (#[.int .u32 a, .int .i64 p, .slice A n c, .int .i64 sh, .int .i64 wo, .int .i64 qu, .int .i64 tr]) := Bk.new _ _ _
  replace H := H.alloc (.cells (opv ⟨A0, n0, c0, A1, n1, c1, A2, n2, c2, A3, n3, c3⟩ ⟨kind, addr, err, aad, used, 5, shard, sought, (lf : Int), bit, word, full, 1, tries, item, stamp⟩) 38)
  replace K := Below.then_ K (below_alloc _ (.cells (opv ⟨A0, n0, c0, A1, n1, c1, A2, n2, c2, A3, n3, c3⟩ ⟨kind, addr, err, aad, used, 5, shard, sought, (lf : Int), bit, word, full, 1, tries, item, stamp⟩) 38))
  have O : Bk (World.alloc ((w).alloc (.cells #[.int .u32 a, .int .i64 p, .slice A n c, .int .i64 sh, .int .i64 wo, .int .i64 qu, .int .i64 tr] 27)) (.cells (opv ⟨A0, n0, c0, A1, n1, c1, A2, n2, c2, A3, n3, c3⟩ ⟨kind, addr, err, aad, used, 5, shard, sought, (lf : Int), bit, word, full, 1, tries, item, stamp⟩) 38)) (World.heap ((w).alloc (.cells #[.int .u32 a, .int .i64 p, .slice A n c, .int .i64 sh, .int .i64 wo, .int .i64 qu, .int .i64 tr] 27))).size 38 (opv ⟨A0, n0, c0, A1, n1, c1, A2, n2, c2, A3, n3, c3⟩ ⟨kind, addr, err, aad, used, 5, shard, sought, (lf : Int), bit, word, full, 1, tries, item, stamp⟩) := Bk.new _ _ _
  replace H := H.alloc (.cells #[.int .i64 0, .int .u32 0, .slice none 0 0, .int .i64 0, .int .u32 0, .bool false, .slice none 0 0, .slice none 0 0, .int .i64 0, .int .i64 0, .int .i64 0, .int .i64 0, .int .i64 0, .int .u64 0, .bool false, .slice none 0 0, .int .i64 0, .int .i64 0, .int .i64 0, .int .i64 0] 38)
  replace O := O.alloc (.cells #[.int .i64 0, .int .u32 0, .slice none 0 0, .int .i64 0, .int .u32 0, .bool false, .slice none 0 0, .slice none 0 0, .int .i64 0, .int .i64 0, .int .i64 0, .int .i64 0, .int .i64 0, .int .u64 0, .bool false, .slice none 0 0, .int .i64 0, .int .i64 0, .int .i64 0, .int .i64 0] 38)
  replace K := Below.then_ K (below_alloc _ (.cells #[.int .i64 0, .int .u32 0, .slice none 0 0, .int .i64 0, .int .u32 0, .bool false, .slice none 0 0, .slice none 0 0, .int .i64 0, .int .i64 0, .int .i64 0, .int .i64 0, .int .i64 0, .int .u64 0, .bool false, .slice none 0 0, .int .i64 0, .int .i64 0, .int .i64 0, .int .i64 0] 38))
  have R : Bk (World.alloc (((w).alloc (.cells #[.int .u32 a, .int .i64 p, .slice A n c, .int .i64 sh, .int .i64 wo, .int .i64 qu, .int .i64 tr] 27)).alloc (.cells (opv ⟨A0, n0, c0, A1, n1, c1, A2, n2, c2, A3, n3, c3⟩ ⟨kind, addr, err, aad, used, 5, shard, sought, (lf : Int), bit, word, full, 1, tries, item, stamp⟩) 38)) (.cells #[.int .i64 0, .int .u32 0, .slice none 0 0, .int .i64 0, .int .u32 0, .bool false, .slice none 0 0, .slice none 0 0, .int .i64 0, .int .i64 0, .int .i64 0, .int .i64 0, .int .i64 0, .int .u64 0, .bool false, .slice none 0 0, .int .i64 0, .int .i64 0, .int .i64 0, .int .i64 0] 38)) (World.heap (((w).alloc (.cells #[.int .u32 a, .int .i64 p, .slice A n c, .int .i64 sh, .int .i64 wo, .int .i64 qu, .int .i64 tr] 27)).alloc (.cells (opv ⟨A0, n0, c0, A1, n1, c1, A2, n2, c2, A3, n3, c3⟩ ⟨kind, addr, err, aad, used, 5, shard, sought, (lf : Int), bit, word, full, 1, tries, item, stamp⟩) 38))).size 38 (opv hd0 sc0) := Bk.new _ _ _
  try simp only [World.size_alloc] at H O R
  generalize (((w).alloc (.cells #[.int .u32 a, .int .i64 p, .slice A n c, .int .i64 sh, .int .i64 wo, .int .i64 qu, .int .i64 tr] 27)).alloc (.cells (opv ⟨A0, n0, c0, A1, n1, c1, A2, n2, c2, A3, n3, c3⟩ ⟨kind, addr, err, aad, used, 5, shard, sought, (lf : Int), bit, word, full, 1, tries, item, stamp⟩) 38)).alloc (.cells #[.int .i64 0, .int .u32 0, .slice none 0 0, .int .i64 0, .int .u32 0, .bool false, .slice none 0 0, .slice none 0 0, .int .i64 0, .int .i64 0, .int .i64 0, .int .i64 0, .int .i64 0, .int .u64 0, .bool false, .slice none 0 0, .int .i64 0, .int .i64 0, .int .i64 0, .int .i64 0] 38) = w1 at H O R K ⊢
  obtain ⟨gR, hgR⟩ : ∃ g, g = w.heap.size + 1 + 1 := ⟨_, rfl⟩
  rw [← hgR] at R ⊢
  obtain ⟨gO, hgO⟩ : ∃ g, g = w.heap.size + 1 := ⟨_, rfl⟩
  rw [← hgO] at O ⊢
  obtain ⟨gH, hgH⟩ : ∃ g, g = w.heap.size := ⟨_, rfl⟩
  rw [← hgH] at H ⊢
  have H_b : w.heap.size ≤ gH := by omega
  have O_b : w.heap.size ≤ gO := by omega
  have R_b : w.heap.size ≤ gR := by omega
  have ne_H_O : gH ≠ gO := by omega
  have ne_H_R : gH ≠ gR := by omega
  have ne_O_R : gO ≠ gR := by omega
  clear hgH hgO hgR
  go_wp2_with (refine wpList_load_row rfl 38 (.tmp 5) rfl gO rfl _ _ (0, 0) _ O Try.underlying38 rfl op_sz ?_)
  refine ((T0 _ (L.below K)).out).mono ?_
  have hOlo := O.lt
  have hRlo := R.lt
  have KS1 := K.size
  rintro e w2 ⟨A0', c0', A1', c1', A2', c2', A3', c3', rfl, L', K'⟩
  replace H := H.below K'
  replace O := O.below K'
  replace R := R.below K'
  replace K := Below.then_ K K'
  clear K'
  generalize w1.heap.size = lo1 at L' hOlo hRlo KS1
  go_upto_region 2 with (refine wpList_store_row rfl 38 (.tmp 5) (.tmp 13) rfl gO _ rfl rfl _ _ O op_sz rfl (opv_one _ _) ?_)
  replace H := H.row_far ne_H_O (opv ⟨A0', n0, c0', A1', n1, c1', A2', n2, c2', A3', n3, c3'⟩ ⟨kind, addr, err, aad, used, 5, shard, sought, (lf : Int), bit, word, full, 1, tries, item, stamp⟩)
  replace R := R.row_far (Ne.symm ne_O_R) (opv ⟨A0', n0, c0', A1', n1, c1', A2', n2, c2', A3', n3, c3'⟩ ⟨kind, addr, err, aad, used, 5, shard, sought, (lf : Int), bit, word, full, 1, tries, item, stamp⟩)
  replace O := O.row (opv ⟨A0', n0, c0', A1', n1, c1', A2', n2, c2', A3', n3, c3'⟩ ⟨kind, addr, err, aad, used, 5, shard, sought, (lf : Int), bit, word, full, 1, tries, item, stamp⟩)
  replace L' := L'.set_row hOlo (opv ⟨A0', n0, c0', A1', n1, c1', A2', n2, c2', A3', n3, c3'⟩ ⟨kind, addr, err, aad, used, 5, shard, sought, (lf : Int), bit, word, full, 1, tries, item, stamp⟩)
  replace K := below_setRow K O_b (opv ⟨A0', n0, c0', A1', n1, c1', A2', n2, c2', A3', n3, c3'⟩ ⟨kind, addr, err, aad, used, 5, shard, sought, (lf : Int), bit, word, full, 1, tries, item, stamp⟩)
  generalize w2.setRow gO (opv ⟨A0', n0, c0', A1', n1, c1', A2', n2, c2', A3', n3, c3'⟩ ⟨kind, addr, err, aad, used, 5, shard, sought, (lf : Int), bit, word, full, 1, tries, item, stamp⟩) = w3 at H O R L' K ⊢
  have O_11 := O.at_ (v := .int .i64 (lf : Int)) 11 rfl
  have O_z := O.lt
  go_wp2_with (refine wpList_load_row rfl 27 (.tmp 3) rfl gH rfl _ _ (0, 0) _ H Try.underlying27 rfl cf_sz ?_)
  refine ((TS _).out).mono ?_
  rintro e w4 ⟨gN, gE, rfl, N, E, hgN, hgE, K'⟩
  clear O_11 O_z hgN hgE
  replace H := H.below K'
  replace O := O.below K'
  replace R := R.below K'
  replace L' := L'.below K'
  replace K := Below.then_ K K'
  clear K'
  have H_lt := H.lt
  have O_lt := O.lt
  have R_lt := R.lt
  have N_lt := N.lt
  have E_lt := E.lt
  have KS := K.size
  go_upto_region 3 with (refine wpList_store_row rfl 70 (.tmp 8) (.tmp 17) rfl _ _ rfl rfl _ _ (Bk.new _ _ _) ar_sz rfl (ar_one _ _) ?_)
  rw [World.setRow_alloc_new]
  replace H := H.alloc (.cells (clos gN gE) 70)
  replace O := O.alloc (.cells (clos gN gE) 70)
  replace R := R.alloc (.cells (clos gN gE) 70)
  replace N := N.alloc (.cells (clos gN gE) 70)
  replace E := E.alloc (.cells (clos gN gE) 70)
  replace L' := L'.below (below_alloc _ (.cells (clos gN gE) 70))
  replace K := Below.then_ K (below_alloc _ (.cells (clos gN gE) 70))
  have V : Bk (World.alloc (w4) (.cells (clos gN gE) 70)) (World.heap (w4)).size 70 (clos gN gE) := Bk.new _ _ _
  try simp only [World.size_alloc] at V
  generalize (w4).alloc (.cells (clos gN gE) 70) = w5 at H O R N E V L' K ⊢
  obtain ⟨gV, hgV⟩ : ∃ g, g = w4.heap.size := ⟨_, rfl⟩
  rw [← hgV] at V ⊢
  have V_b : w.heap.size ≤ gV := by have := KS; omega
  have ne_H_V : gH ≠ gV := by have := H_lt; omega
  have ne_O_V : gO ≠ gV := by have := O_lt; omega
  have ne_R_V : gR ≠ gV := by have := R_lt; omega
  have ne_N_V : gN ≠ gV := by have := N_lt; omega
  have ne_E_V : gE ≠ gV := by have := E_lt; omega
  clear hgV
  clear H_lt O_lt R_lt N_lt E_lt KS
  have O_16 := O.at_ (v := .int .i64 1) 16 rfl
  have O_z := O.lt
  have V_1 := V.at_ (v := .func (.func 61) #[] #[.pointer (some ⟨gN, 0, none⟩), .pointer (some ⟨gE, 0, none⟩)]) 1 rfl
  have V_z := V.lt
  go_upto_region 6 with ((with_reducible refine ((TC _ _ _ (N.at_ (v := .int .i64 M) 0 rfl) (E.at_ (v := .int .i64 lf) 0 rfl)).out).mono ?_); rintro e w' ⟨rfl, rfl⟩)
  clear O_16 O_z V_1 V_z N E V ne_H_V ne_O_V ne_R_V ne_N_V ne_E_V V_b TC TS T0
  have O_8 := O.at_ (v := .int .i64 5) 8 rfl
  have O_z := O.lt
  go_upto_region 10 with (fail)
  clear O_8 O_z
  have O_13 := O.at_ (v := .int .u64 ((word : Nat) : Int)) 13 rfl
  have O_14 := O.at_ (v := .bool (full)) 14 rfl
  have O_z := O.lt
  go_upto_region 11 with ((with_reducible refine ((TM _).out).mono ?_); rintro e w' ⟨rfl, rfl⟩)
  go_wp2_with fail
  refine ((TW _ (hU.below K)).out).mono ?_
  have hOs := O.lt
  have hRs := R.lt
  have KSw := K.size
  rintro e w6 ⟨gS, dS, rfl, U, hgS, K'⟩
  have hgw : w.heap.size ≤ gS := Nat.le_trans KSw hgS
  clear KSw
  clear O_13 O_14 O_z
  replace H := H.below K'
  replace O := O.below K'
  replace R := R.below K'
  replace L' := L'.below K'
  replace K := Below.then_ K K'
  clear K'
  have U' : UL gS w6 (some ⟨gS, 0, none⟩) m dS (ys.set cl y) := ⟨U, fun b o e => by cases e; exact Nat.le_refl _⟩
  clear U
  have hOs2 : gO < gS := by omega
  have hRs2 : gR < gS := by omega
  clear hOs hRs hgS
  have O_13 := O.at_ (v := .int .u64 ((word : Nat) : Int)) 13 rfl
  have O_z := O.lt
  have O_f13 := O.fz 13
  go_upto_region 13 with (fail)
  replace H := H.far (p := ⟨gO, 13, none⟩) ne_H_O (.int .u64 (y : Nat))
  replace R := R.far (p := ⟨gO, 13, none⟩) (Ne.symm ne_O_R) (.int .u64 (y : Nat))
  replace O := O.set_ 13 (.int .u64 (y : Nat))
  replace L' := L'.set_low (p := ⟨gO, 13, none⟩) hOlo (.int .u64 (y : Nat))
  replace U' := U'.set_low (p := ⟨gO, 13, none⟩) hOs2 (.int .u64 (y : Nat))
  replace K := K.setCell (p := ⟨gO, 13, none⟩) O_b (.int .u64 (y : Nat))
  replace O : Bk ((w6).setCell ⟨gO, 13, none⟩ (.int .u64 (y : Nat))) gO 38 (opv ⟨A0', n0, c0', A1', n1, c1', A2', n2, c2', A3', n3, c3'⟩ (worded ⟨kind, addr, err, aad, used, 5, shard, sought, (lf : Int), bit, word, full, 1, tries, item, stamp⟩ y)) := O
  clear O_13 O_z O_f13
  generalize (w6).setCell ⟨gO, 13, none⟩ (.int .u64 (y : Nat)) = w7 at H O R L' U' K ⊢
  go_wp2_with (first | (refine wpList_load_row rfl 27 (.tmp 3) rfl gH rfl _ _ (0, 0) _ H Try.underlying27 rfl cf_sz ?_) | (refine wpList_load_row rfl 38 (.tmp 5) rfl gO rfl _ _ (0, 0) _ O Try.underlying38 rfl op_sz ?_))
  refine ((TD _ _ A0' c0' A1' c1' A2' c2' A3' c3' (L'.asked hx.out)).out).mono ?_
  rintro e w8 ⟨rfl, K'⟩
  replace H := H.below K'
  replace O := O.below K'
  replace R := R.below K'
  replace L' := L'.below K'
  replace U' := U'.below K'
  replace K := Below.then_ K K'
  clear K'
  go_wp2_with (refine wpList_store_row rfl 38 (.tmp 7) (.tmp 70) rfl gR _ rfl rfl _ _ R op_sz rfl (opv_one _ _) ?_)
  replace H := H.row_far ne_H_R (opv ⟨A0', n0, c0', A1', n1, c1', A2', n2, c2', A3', n3, c3'⟩ (dn a n0 xs (worded ⟨kind, addr, err, aad, used, 5, shard, sought, (lf : Int), bit, word, full, 1, tries, item, stamp⟩ y)))
  replace O := O.row_far ne_O_R (opv ⟨A0', n0, c0', A1', n1, c1', A2', n2, c2', A3', n3, c3'⟩ (dn a n0 xs (worded ⟨kind, addr, err, aad, used, 5, shard, sought, (lf : Int), bit, word, full, 1, tries, item, stamp⟩ y)))
  replace R := R.row (opv ⟨A0', n0, c0', A1', n1, c1', A2', n2, c2', A3', n3, c3'⟩ (dn a n0 xs (worded ⟨kind, addr, err, aad, used, 5, shard, sought, (lf : Int), bit, word, full, 1, tries, item, stamp⟩ y)))
  replace L' := L'.set_row hRlo (opv ⟨A0', n0, c0', A1', n1, c1', A2', n2, c2', A3', n3, c3'⟩ (dn a n0 xs (worded ⟨kind, addr, err, aad, used, 5, shard, sought, (lf : Int), bit, word, full, 1, tries, item, stamp⟩ y)))
  replace U' := U'.set_row hRs2 (opv ⟨A0', n0, c0', A1', n1, c1', A2', n2, c2', A3', n3, c3'⟩ (dn a n0 xs (worded ⟨kind, addr, err, aad, used, 5, shard, sought, (lf : Int), bit, word, full, 1, tries, item, stamp⟩ y)))
  replace K := below_setRow K R_b (opv ⟨A0', n0, c0', A1', n1, c1', A2', n2, c2', A3', n3, c3'⟩ (dn a n0 xs (worded ⟨kind, addr, err, aad, used, 5, shard, sought, (lf : Int), bit, word, full, 1, tries, item, stamp⟩ y)))
  generalize w8.setRow gR (opv ⟨A0', n0, c0', A1', n1, c1', A2', n2, c2', A3', n3, c3'⟩ (dn a n0 xs (worded ⟨kind, addr, err, aad, used, 5, shard, sought, (lf : Int), bit, word, full, 1, tries, item, stamp⟩ y))) = w9 at H O R L' U' K ⊢
  refine bodyPost_ret (v := .tuple #[.slice (some ⟨gS, 0, none⟩) m dS, .agg (opv ⟨A0', n0, c0', A1', n1, c1', A2', n2, c2', A3', n3, c3'⟩ (dn a n0 xs (worded ⟨kind, addr, err, aad, used, 5, shard, sought, (lf : Int), bit, word, full, 1, tries, item, stamp⟩ y)))]) ?_ rfl ?_
  · exact results_tc (fn := Try.f17) Try.results17 _ _ gR _ _ (0, 0) _ rfl R Try.underlying38 rfl op_sz
  exact ⟨_, _, _, _, _, _, _, _, _, _, rfl, U'.1, L'.lower KS1, (fun k hk _ b o e => by cases e; omega), K⟩
set_option maxHeartbeats 2000000 in
theorem step5_1_n (ha : a < 4294967296) (hM : Much a p M) (hn : h.n0 ≤ 65536) (hI : IS .u32 lo w h.A0 h.n0 h.c0 xs) (hin : InB a M h.n0 xs) (L : Lists lo2 w h l) (h1 : h.n1 ≤ 65536) (h2 : h.n2 ≤ 65536) (h3 : h.n3 ≤ 65536) (hU : US w B m d ys) (hm : m ≤ 65536) (hlf : s.leaf = (lf : Int)) (hlv : lf < lv M) (hcm : cl < m) (hb2 : b < 64) (hw : s.word < 18446744073709551616) (hcl : cl = lv M + tv M) (hb : b = lf / 64) (hat : s.at_ = 1) (hph : s.phase = 5) (heq : gt ys cl ≠ s.word) :
    Calls Try.prog 17 #[.agg #[.int .u32 a, .int .i64 p, .slice A n c, .int .i64 sh, .int .i64 wo, .int .i64 qu, .int .i64 tr], .slice B m d, .agg (opv h s)] w (RetStep h (dn a h.n0 xs (worded s (mkd s.word b s.full))) l m ys B w) := by
  have hl3 := lv_le hM.most
  have T0 := fun w (L : Lists lo2 w h l) => Lib.hid (own_any (s := s) L hn h1 h2 h3)
  have hx := Lib.hid (L.i0.uniq hI)
  have TS := fun w => Lib.hid (summaries_any (w := w) (sh := sh) (wo := wo) (qu := qu) (tr := tr) (A := A) (n := n) (c := c) (leaf := (lf : Int)) ha hM)
  have TC : ∀ (w : World) gN gE (_ : w.cell? ⟨gN, 0, none⟩ = some (.int .i64 (M : Nat))) (_ : w.cell? ⟨gE, 0, none⟩ = some (.int .i64 (lf : Nat))), Hid (Calls Try.prog 61 #[.pointer (some ⟨gN, 0, none⟩), .pointer (some ⟨gE, 0, none⟩)] w fun e w' => e = .returned (.tuple #[.int .i64 (cl : Nat), .int .i64 (b : Nat)]) ∧ w = w') := fun w gN gE hN hE => by rw [hcl, hb]; exact clo2_any hN hE hM.most (by omega)
  have TM := fun w => Lib.hid (marked_any s.word b s.full hw hb2 w)
  have hy := mkd_lt s.full hw hb2
  obtain ⟨y, hy1⟩ : ∃ y, y = mkd s.word b s.full := ⟨_, rfl⟩
  rw [← hy1] at TM hy
  have TD := fun w lo A0 c0 A1 c1 A2 c2 A3 c3 (hI : IS .u32 lo w A0 h.n0 c0 xs) => Lib.hid (done_any (w := w) (sh := sh) (wo := wo) (qu := qu) (tr := tr) (A := A) (n := n) (c := c) (h := ⟨A0, h.n0, c0, A1, h.n1, c1, A2, h.n2, c2, A3, h.n3, c3⟩) (s := worded s y) ha hM hn hI hin)
  rw [← hy1]
  clear hy1
  have TW := fun w (U : US w B m d ys) => Lib.hid (swap_same (v := y) U hcm heq)
  clear heq
  clear hcl hb
  rcases s with ⟨kind, addr, err, aad, used, phase, shard, sought, leaf, bit, word, full, at_, tries, item, stamp⟩
  rcases h with ⟨A0, n0, c0, A1, n1, c1, A2, n2, c2, A3, n3, c3⟩
  dsimp only at *
  subst hlf hat hph
  go_enter Try.func17, Try.ntmps17
  go_upto_region 1 with (fail)
  have K := below_alloc w (.cells #[.int .u32 a, .int .i64 p, .slice A n c, .int .i64 sh, .int .i64 wo, .int .i64 qu, .int .i64 tr] 27)
  have H : Bk (World.alloc (w) (.cells #[.int .u32 a, .int .i64 p, .slice A n c, .int .i64 sh, .int .i64 wo, .int .i64 qu, .int .i64 tr] 27)) (World.heap (w)).size 27 (#[.int .u32 a, .int .i64 p, .slice A n c, .int .i64 sh, .int .i64 wo, .int .i64 qu, .int .i64 tr]) := Bk.new _ _ _
  replace H := H.alloc (.cells (opv ⟨A0, n0, c0, A1, n1, c1, A2, n2, c2, A3, n3, c3⟩ ⟨kind, addr, err, aad, used, 5, shard, sought, (lf : Int), bit, word, full, 1, tries, item, stamp⟩) 38)
  replace K := Below.then_ K (below_alloc _ (.cells (opv ⟨A0, n0, c0, A1, n1, c1, A2, n2, c2, A3, n3, c3⟩ ⟨kind, addr, err, aad, used, 5, shard, sought, (lf : Int), bit, word, full, 1, tries, item, stamp⟩) 38))
  have O : Bk (World.alloc ((w).alloc (.cells #[.int .u32 a, .int .i64 p, .slice A n c, .int .i64 sh, .int .i64 wo, .int .i64 qu, .int .i64 tr] 27)) (.cells (opv ⟨A0, n0, c0, A1, n1, c1, A2, n2, c2, A3, n3, c3⟩ ⟨kind, addr, err, aad, used, 5, shard, sought, (lf : Int), bit, word, full, 1, tries, item, stamp⟩) 38)) (World.heap ((w).alloc (.cells #[.int .u32 a, .int .i64 p, .slice A n c, .int .i64 sh, .int .i64 wo, .int .i64 qu, .int .i64 tr] 27))).size 38 (opv ⟨A0, n0, c0, A1, n1, c1, A2, n2, c2, A3, n3, c3⟩ ⟨kind, addr, err, aad, used, 5, shard, sought, (lf : Int), bit, word, full, 1, tries, item, stamp⟩) := Bk.new _ _ _
  replace H := H.alloc (.cells #[.int .i64 0, .int .u32 0, .slice none 0 0, .int .i64 0, .int .u32 0, .bool false, .slice none 0 0, .slice none 0 0, .int .i64 0, .int .i64 0, .int .i64 0, .int .i64 0, .int .i64 0, .int .u64 0, .bool false, .slice none 0 0, .int .i64 0, .int .i64 0, .int .i64 0, .int .i64 0] 38)
  replace O := O.alloc (.cells #[.int .i64 0, .int .u32 0, .slice none 0 0, .int .i64 0, .int .u32 0, .bool false, .slice none 0 0, .slice none 0 0, .int .i64 0, .int .i64 0, .int .i64 0, .int .i64 0, .int .i64 0, .int .u64 0, .bool false, .slice none 0 0, .int .i64 0, .int .i64 0, .int .i64 0, .int .i64 0] 38)
  replace K := Below.then_ K (below_alloc _ (.cells #[.int .i64 0, .int .u32 0, .slice none 0 0, .int .i64 0, .int .u32 0, .bool false, .slice none 0 0, .slice none 0 0, .int .i64 0, .int .i64 0, .int .i64 0, .int .i64 0, .int .i64 0, .int .u64 0, .bool false, .slice none 0 0, .int .i64 0, .int .i64 0, .int .i64 0, .int .i64 0] 38))
  have R : Bk (World.alloc (((w).alloc (.cells #[.int .u32 a, .int .i64 p, .slice A n c, .int .i64 sh, .int .i64 wo, .int .i64 qu, .int .i64 tr] 27)).alloc (.cells (opv ⟨A0, n0, c0, A1, n1, c1, A2, n2, c2, A3, n3, c3⟩ ⟨kind, addr, err, aad, used, 5, shard, sought, (lf : Int), bit, word, full, 1, tries, item, stamp⟩) 38)) (.cells #[.int .i64 0, .int .u32 0, .slice none 0 0, .int .i64 0, .int .u32 0, .bool false, .slice none 0 0, .slice none 0 0, .int .i64 0, .int .i64 0, .int .i64 0, .int .i64 0, .int .i64 0, .int .u64 0, .bool false, .slice none 0 0, .int .i64 0, .int .i64 0, .int .i64 0, .int .i64 0] 38)) (World.heap (((w).alloc (.cells #[.int .u32 a, .int .i64 p, .slice A n c, .int .i64 sh, .int .i64 wo, .int .i64 qu, .int .i64 tr] 27)).alloc (.cells (opv ⟨A0, n0, c0, A1, n1, c1, A2, n2, c2, A3, n3, c3⟩ ⟨kind, addr, err, aad, used, 5, shard, sought, (lf : Int), bit, word, full, 1, tries, item, stamp⟩) 38))).size 38 (opv hd0 sc0) := Bk.new _ _ _
  try simp only [World.size_alloc] at H O R
  generalize (((w).alloc (.cells #[.int .u32 a, .int .i64 p, .slice A n c, .int .i64 sh, .int .i64 wo, .int .i64 qu, .int .i64 tr] 27)).alloc (.cells (opv ⟨A0, n0, c0, A1, n1, c1, A2, n2, c2, A3, n3, c3⟩ ⟨kind, addr, err, aad, used, 5, shard, sought, (lf : Int), bit, word, full, 1, tries, item, stamp⟩) 38)).alloc (.cells #[.int .i64 0, .int .u32 0, .slice none 0 0, .int .i64 0, .int .u32 0, .bool false, .slice none 0 0, .slice none 0 0, .int .i64 0, .int .i64 0, .int .i64 0, .int .i64 0, .int .i64 0, .int .u64 0, .bool false, .slice none 0 0, .int .i64 0, .int .i64 0, .int .i64 0, .int .i64 0] 38) = w1 at H O R K ⊢
  obtain ⟨gR, hgR⟩ : ∃ g, g = w.heap.size + 1 + 1 := ⟨_, rfl⟩
  rw [← hgR] at R ⊢
  obtain ⟨gO, hgO⟩ : ∃ g, g = w.heap.size + 1 := ⟨_, rfl⟩
  rw [← hgO] at O ⊢
  obtain ⟨gH, hgH⟩ : ∃ g, g = w.heap.size := ⟨_, rfl⟩
  rw [← hgH] at H ⊢
  have H_b : w.heap.size ≤ gH := by omega
  have O_b : w.heap.size ≤ gO := by omega
  have R_b : w.heap.size ≤ gR := by omega
  have ne_H_O : gH ≠ gO := by omega
  have ne_H_R : gH ≠ gR := by omega
  have ne_O_R : gO ≠ gR := by omega
  clear hgH hgO hgR
  go_wp2_with (refine wpList_load_row rfl 38 (.tmp 5) rfl gO rfl _ _ (0, 0) _ O Try.underlying38 rfl op_sz ?_)
  refine ((T0 _ (L.below K)).out).mono ?_
  have hOlo := O.lt
  have hRlo := R.lt
  have KS1 := K.size
  rintro e w2 ⟨A0', c0', A1', c1', A2', c2', A3', c3', rfl, L', K'⟩
  replace H := H.below K'
  replace O := O.below K'
  replace R := R.below K'
  replace K := Below.then_ K K'
  clear K'
  generalize w1.heap.size = lo1 at L' hOlo hRlo KS1
  go_upto_region 2 with (refine wpList_store_row rfl 38 (.tmp 5) (.tmp 13) rfl gO _ rfl rfl _ _ O op_sz rfl (opv_one _ _) ?_)
  replace H := H.row_far ne_H_O (opv ⟨A0', n0, c0', A1', n1, c1', A2', n2, c2', A3', n3, c3'⟩ ⟨kind, addr, err, aad, used, 5, shard, sought, (lf : Int), bit, word, full, 1, tries, item, stamp⟩)
  replace R := R.row_far (Ne.symm ne_O_R) (opv ⟨A0', n0, c0', A1', n1, c1', A2', n2, c2', A3', n3, c3'⟩ ⟨kind, addr, err, aad, used, 5, shard, sought, (lf : Int), bit, word, full, 1, tries, item, stamp⟩)
  replace O := O.row (opv ⟨A0', n0, c0', A1', n1, c1', A2', n2, c2', A3', n3, c3'⟩ ⟨kind, addr, err, aad, used, 5, shard, sought, (lf : Int), bit, word, full, 1, tries, item, stamp⟩)
  replace L' := L'.set_row hOlo (opv ⟨A0', n0, c0', A1', n1, c1', A2', n2, c2', A3', n3, c3'⟩ ⟨kind, addr, err, aad, used, 5, shard, sought, (lf : Int), bit, word, full, 1, tries, item, stamp⟩)
  replace K := below_setRow K O_b (opv ⟨A0', n0, c0', A1', n1, c1', A2', n2, c2', A3', n3, c3'⟩ ⟨kind, addr, err, aad, used, 5, shard, sought, (lf : Int), bit, word, full, 1, tries, item, stamp⟩)
  generalize w2.setRow gO (opv ⟨A0', n0, c0', A1', n1, c1', A2', n2, c2', A3', n3, c3'⟩ ⟨kind, addr, err, aad, used, 5, shard, sought, (lf : Int), bit, word, full, 1, tries, item, stamp⟩) = w3 at H O R L' K ⊢
  have O_11 := O.at_ (v := .int .i64 (lf : Int)) 11 rfl
  have O_z := O.lt
  go_wp2_with (refine wpList_load_row rfl 27 (.tmp 3) rfl gH rfl _ _ (0, 0) _ H Try.underlying27 rfl cf_sz ?_)
  refine ((TS _).out).mono ?_
  rintro e w4 ⟨gN, gE, rfl, N, E, hgN, hgE, K'⟩
  clear O_11 O_z hgN hgE
  replace H := H.below K'
  replace O := O.below K'
  replace R := R.below K'
  replace L' := L'.below K'
  replace K := Below.then_ K K'
  clear K'
  have H_lt := H.lt
  have O_lt := O.lt
  have R_lt := R.lt
  have N_lt := N.lt
  have E_lt := E.lt
  have KS := K.size
  go_upto_region 3 with (refine wpList_store_row rfl 70 (.tmp 8) (.tmp 17) rfl _ _ rfl rfl _ _ (Bk.new _ _ _) ar_sz rfl (ar_one _ _) ?_)
  rw [World.setRow_alloc_new]
  replace H := H.alloc (.cells (clos gN gE) 70)
  replace O := O.alloc (.cells (clos gN gE) 70)
  replace R := R.alloc (.cells (clos gN gE) 70)
  replace N := N.alloc (.cells (clos gN gE) 70)
  replace E := E.alloc (.cells (clos gN gE) 70)
  replace L' := L'.below (below_alloc _ (.cells (clos gN gE) 70))
  replace K := Below.then_ K (below_alloc _ (.cells (clos gN gE) 70))
  have V : Bk (World.alloc (w4) (.cells (clos gN gE) 70)) (World.heap (w4)).size 70 (clos gN gE) := Bk.new _ _ _
  try simp only [World.size_alloc] at V
  generalize (w4).alloc (.cells (clos gN gE) 70) = w5 at H O R N E V L' K ⊢
  obtain ⟨gV, hgV⟩ : ∃ g, g = w4.heap.size := ⟨_, rfl⟩
  rw [← hgV] at V ⊢
  have V_b : w.heap.size ≤ gV := by have := KS; omega
  have ne_H_V : gH ≠ gV := by have := H_lt; omega
  have ne_O_V : gO ≠ gV := by have := O_lt; omega
  have ne_R_V : gR ≠ gV := by have := R_lt; omega
  have ne_N_V : gN ≠ gV := by have := N_lt; omega
  have ne_E_V : gE ≠ gV := by have := E_lt; omega
  clear hgV
  clear H_lt O_lt R_lt N_lt E_lt KS
  have O_16 := O.at_ (v := .int .i64 1) 16 rfl
  have O_z := O.lt
  have V_1 := V.at_ (v := .func (.func 61) #[] #[.pointer (some ⟨gN, 0, none⟩), .pointer (some ⟨gE, 0, none⟩)]) 1 rfl
  have V_z := V.lt
  go_upto_region 6 with ((with_reducible refine ((TC _ _ _ (N.at_ (v := .int .i64 M) 0 rfl) (E.at_ (v := .int .i64 lf) 0 rfl)).out).mono ?_); rintro e w' ⟨rfl, rfl⟩)
  clear O_16 O_z V_1 V_z N E V ne_H_V ne_O_V ne_R_V ne_N_V ne_E_V V_b TC TS T0
  have O_8 := O.at_ (v := .int .i64 5) 8 rfl
  have O_z := O.lt
  go_upto_region 10 with (fail)
  clear O_8 O_z
  have O_13 := O.at_ (v := .int .u64 ((word : Nat) : Int)) 13 rfl
  have O_14 := O.at_ (v := .bool (full)) 14 rfl
  have O_z := O.lt
  go_upto_region 11 with ((with_reducible refine ((TM _).out).mono ?_); rintro e w' ⟨rfl, rfl⟩)
  go_wp2_with fail
  refine ((TW _ (hU.below K)).out).mono ?_
  have hOs := O.lt
  have hRs := R.lt
  rintro e w6 ⟨rfl, K'⟩
  clear O_13 O_14 O_z
  replace H := H.below K'
  replace O := O.below K'
  replace R := R.below K'
  replace L' := L'.below K'
  replace K := Below.then_ K K'
  clear K'
  clear hOs hRs
  have O_13 := O.at_ (v := .int .u64 ((word : Nat) : Int)) 13 rfl
  have O_z := O.lt
  have O_f13 := O.fz 13
  go_upto_region 13 with (fail)
  replace H := H.far (p := ⟨gO, 13, none⟩) ne_H_O (.int .u64 (y : Nat))
  replace R := R.far (p := ⟨gO, 13, none⟩) (Ne.symm ne_O_R) (.int .u64 (y : Nat))
  replace O := O.set_ 13 (.int .u64 (y : Nat))
  replace L' := L'.set_low (p := ⟨gO, 13, none⟩) hOlo (.int .u64 (y : Nat))
  replace K := K.setCell (p := ⟨gO, 13, none⟩) O_b (.int .u64 (y : Nat))
  replace O : Bk ((w6).setCell ⟨gO, 13, none⟩ (.int .u64 (y : Nat))) gO 38 (opv ⟨A0', n0, c0', A1', n1, c1', A2', n2, c2', A3', n3, c3'⟩ (worded ⟨kind, addr, err, aad, used, 5, shard, sought, (lf : Int), bit, word, full, 1, tries, item, stamp⟩ y)) := O
  clear O_13 O_z O_f13
  generalize (w6).setCell ⟨gO, 13, none⟩ (.int .u64 (y : Nat)) = w7 at H O R L' K ⊢
  go_wp2_with (first | (refine wpList_load_row rfl 27 (.tmp 3) rfl gH rfl _ _ (0, 0) _ H Try.underlying27 rfl cf_sz ?_) | (refine wpList_load_row rfl 38 (.tmp 5) rfl gO rfl _ _ (0, 0) _ O Try.underlying38 rfl op_sz ?_))
  refine ((TD _ _ A0' c0' A1' c1' A2' c2' A3' c3' (L'.asked hx.out)).out).mono ?_
  rintro e w8 ⟨rfl, K'⟩
  replace H := H.below K'
  replace O := O.below K'
  replace R := R.below K'
  replace L' := L'.below K'
  replace K := Below.then_ K K'
  clear K'
  go_wp2_with (refine wpList_store_row rfl 38 (.tmp 7) (.tmp 70) rfl gR _ rfl rfl _ _ R op_sz rfl (opv_one _ _) ?_)
  replace H := H.row_far ne_H_R (opv ⟨A0', n0, c0', A1', n1, c1', A2', n2, c2', A3', n3, c3'⟩ (dn a n0 xs (worded ⟨kind, addr, err, aad, used, 5, shard, sought, (lf : Int), bit, word, full, 1, tries, item, stamp⟩ y)))
  replace O := O.row_far ne_O_R (opv ⟨A0', n0, c0', A1', n1, c1', A2', n2, c2', A3', n3, c3'⟩ (dn a n0 xs (worded ⟨kind, addr, err, aad, used, 5, shard, sought, (lf : Int), bit, word, full, 1, tries, item, stamp⟩ y)))
  replace R := R.row (opv ⟨A0', n0, c0', A1', n1, c1', A2', n2, c2', A3', n3, c3'⟩ (dn a n0 xs (worded ⟨kind, addr, err, aad, used, 5, shard, sought, (lf : Int), bit, word, full, 1, tries, item, stamp⟩ y)))
  replace L' := L'.set_row hRlo (opv ⟨A0', n0, c0', A1', n1, c1', A2', n2, c2', A3', n3, c3'⟩ (dn a n0 xs (worded ⟨kind, addr, err, aad, used, 5, shard, sought, (lf : Int), bit, word, full, 1, tries, item, stamp⟩ y)))
  replace K := below_setRow K R_b (opv ⟨A0', n0, c0', A1', n1, c1', A2', n2, c2', A3', n3, c3'⟩ (dn a n0 xs (worded ⟨kind, addr, err, aad, used, 5, shard, sought, (lf : Int), bit, word, full, 1, tries, item, stamp⟩ y)))
  generalize w8.setRow gR (opv ⟨A0', n0, c0', A1', n1, c1', A2', n2, c2', A3', n3, c3'⟩ (dn a n0 xs (worded ⟨kind, addr, err, aad, used, 5, shard, sought, (lf : Int), bit, word, full, 1, tries, item, stamp⟩ y))) = w9 at H O R L' K ⊢
  refine bodyPost_ret (v := .tuple #[.slice B m d, .agg (opv ⟨A0', n0, c0', A1', n1, c1', A2', n2, c2', A3', n3, c3'⟩ (dn a n0 xs (worded ⟨kind, addr, err, aad, used, 5, shard, sought, (lf : Int), bit, word, full, 1, tries, item, stamp⟩ y)))]) ?_ rfl ?_
  · exact results_tc (fn := Try.f17) Try.results17 _ _ gR _ _ (0, 0) _ rfl R Try.underlying38 rfl op_sz
  exact ⟨_, _, _, _, _, _, _, _, _, _, rfl, hU.below K, L'.lower KS1, (fun _ _ h => h), K⟩
end
end Go.Proofs.Ytlfdekeahplidaa
