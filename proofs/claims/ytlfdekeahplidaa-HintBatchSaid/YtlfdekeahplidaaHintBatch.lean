/-
  The walk of the law HintBatch: for every configuration and operation it answers true.
-/
import Derived.Test.YtlfdekeahplidaaHintAwake
import Derived.Test.YtlfdekeahplidaaHintWhole
import Derived.Test.YtlfdekeahplidaaHintGuard
import Derived.Test.YtlfdekeahplidaaHintSame
namespace Go.Proofs.Ytlfdekeahplidaa.hintBatch
open Go.RowKit
set_option linter.unusedVariables false
section
variable {w : World} {lo a m d : Nat} {p sh wo qu tr : Int} {A B : Option Addr} {n c : Nat} {zs xs : List Int} {ys : List Nat} {h : Hd} {s : Sc} {l : Ls}
/-- The operation at the k-th address, with what it was asked and answered. -/
def At (s sx : Sc) (k : Nat) : Prop := sx.kind = s.kind ∧ sx.addr = s.addr ∧ sx.err = s.err ∧ sx.aad = s.aad ∧ sx.used = s.used ∧ sx.item = (k : Int) - 1
theorem fur_yes {s sx : Sc} {k n : Nat} (h : At s sx k) (h4 : s.kind = 4) (hk : 1 ≤ k) (hn : k < n) : fur n sx = true := by
  obtain ⟨h1, _, _, _, _, h6⟩ := h
  unfold fur; simp; omega
theorem fur_no {s sx : Sc} {k n : Nat} (h : At s sx k) (hn : s.kind ≠ 4 ∨ n ≤ k) : fur n sx = false := by
  obtain ⟨h1, _, _, _, _, h6⟩ := h
  unfold fur; simp; omega
theorem at_next {s sx : Sc} {a k : Nat} {xs : List Int} (h : At s sx k) : At s (next_ a xs sx) (k + 1) := by
  obtain ⟨h1, h2, h3, h4, h5, h6⟩ := h
  exact ⟨h1, h2, h3, h4, h5, by show sx.item + 1 = _; omega⟩
set_option maxRecDepth 100000 in
set_option maxHeartbeats 1000000 in
theorem not_may (ha : a < 4294967296) (h0 : IS .i64 lo w A n c zs) (hI : IS .u32 0 w h.A0 h.n0 h.c0 xs) (hxs : ∀ j, j < h.n0 → ∃ x : Nat, gi xs j = (x : Int) ∧ x < 4294967296) (L : Lists 0 w h l) (hf : ∀ x ∈ l.ses, (Lit.int .u64 x).wf = true) (hw : s.word < 18446744073709551616) (hb : confB a p n zs sh wo qu tr = false) :
    Calls Try.prog 5 #[.agg #[.int .u32 a, .int .i64 p, .slice A n c, .int .i64 sh, .int .i64 wo, .int .i64 qu, .int .i64 tr], .agg (opv h s)] w (RetBo true w) := by
  replace hb := Lib.hid hb
  replace hxs := Lib.hid hxs
  replace hf := Lib.hid hf
  have hrq := Lib.hid (L.i0.uniq hI)
  rcases h with ⟨A0, n0, c0, A1, n1, c1, A2, n2, c2, A3, n3, c3⟩
  dsimp only at *
  go_enter Try.func5, Try.ntmps5
  go_upto_region 1 with (fail)
  have K := below_alloc w (.cells #[.int .u32 a, .int .i64 p, .slice A n c, .int .i64 sh, .int .i64 wo, .int .i64 qu, .int .i64 tr] 27)
  have H : Bk (World.alloc (w) (.cells #[.int .u32 a, .int .i64 p, .slice A n c, .int .i64 sh, .int .i64 wo, .int .i64 qu, .int .i64 tr] 27)) (World.heap (w)).size 27 (#[.int .u32 a, .int .i64 p, .slice A n c, .int .i64 sh, .int .i64 wo, .int .i64 qu, .int .i64 tr]) := Bk.new _ _ _
  replace H := H.alloc (.cells (opv ⟨A0, n0, c0, A1, n1, c1, A2, n2, c2, A3, n3, c3⟩ s) 38)
  replace K := Below.then_ K (below_alloc _ (.cells (opv ⟨A0, n0, c0, A1, n1, c1, A2, n2, c2, A3, n3, c3⟩ s) 38))
  have O : Bk (World.alloc ((w).alloc (.cells #[.int .u32 a, .int .i64 p, .slice A n c, .int .i64 sh, .int .i64 wo, .int .i64 qu, .int .i64 tr] 27)) (.cells (opv ⟨A0, n0, c0, A1, n1, c1, A2, n2, c2, A3, n3, c3⟩ s) 38)) (World.heap ((w).alloc (.cells #[.int .u32 a, .int .i64 p, .slice A n c, .int .i64 sh, .int .i64 wo, .int .i64 qu, .int .i64 tr] 27))).size 38 (opv ⟨A0, n0, c0, A1, n1, c1, A2, n2, c2, A3, n3, c3⟩ s) := Bk.new _ _ _
  try simp only [World.size_alloc] at H O
  generalize ((w).alloc (.cells #[.int .u32 a, .int .i64 p, .slice A n c, .int .i64 sh, .int .i64 wo, .int .i64 qu, .int .i64 tr] 27)).alloc (.cells (opv ⟨A0, n0, c0, A1, n1, c1, A2, n2, c2, A3, n3, c3⟩ s) 38) = w1 at H O K ⊢
  obtain ⟨gO, hgO⟩ : ∃ g, g = w.heap.size + 1 := ⟨_, rfl⟩
  rw [← hgO] at O ⊢
  obtain ⟨gH, hgH⟩ : ∃ g, g = w.heap.size := ⟨_, rfl⟩
  rw [← hgH] at H ⊢
  have H_b : w.heap.size ≤ gH := by omega
  have O_b : w.heap.size ≤ gO := by omega
  have ne_H_O : gH ≠ gO := by omega
  clear hgH hgO
  go_wp2_with fail
  refine (awake_any _).mono ?_
  rintro e w2 ⟨rfl, K'⟩
  replace H := H.below K'
  replace O := O.below K'
  replace K := Below.then_ K K'
  clear K'
  go_wp2_with (refine wpList_load_want (by rfl) 27 (.tmp 2) rfl gH rfl _ _ (0, 0) _ H Try.underlying27 rfl cf_sz ?_)
  refine (rmay_is ha (h0.below K) hb.out).mono ?_
  rintro e w3 ⟨rfl, K'⟩
  replace H := H.below K'
  replace O := O.below K'
  replace K := Below.then_ K K'
  clear K'
  go_wp2_with fail
  refine (awake_any _).mono ?_
  rintro e w77 ⟨rfl, K'⟩
  replace K := Below.then_ K K'
  go_wp2
  go_ret
  exact ⟨rfl, K⟩
set_option maxRecDepth 100000 in
set_option maxHeartbeats 1000000 in
theorem may {M : Nat} (ha : a < 4294967296) (h0 : IS .i64 lo w A n c zs) (hI : IS .u32 0 w h.A0 h.n0 h.c0 xs) (hxs : ∀ j, j < h.n0 → ∃ x : Nat, gi xs j = (x : Int) ∧ x < 4294967296) (L : Lists 0 w h l) (hf : ∀ x ∈ l.ses, (Lit.int .u64 x).wf = true) (hw : s.word < 18446744073709551616) (hb : confB a p n zs sh wo qu tr = true) (hM : Much a p M) :
    Calls Try.prog 5 #[.agg #[.int .u32 a, .int .i64 p, .slice A n c, .int .i64 sh, .int .i64 wo, .int .i64 qu, .int .i64 tr], .agg (opv h s)] w (RetBo true w) := by
  replace hb := Lib.hid hb
  replace hxs := Lib.hid hxs
  replace hf := Lib.hid hf
  have hrq := Lib.hid (L.i0.uniq hI)
  rcases h with ⟨A0, n0, c0, A1, n1, c1, A2, n2, c2, A3, n3, c3⟩
  dsimp only at *
  go_enter Try.func5, Try.ntmps5
  go_upto_region 1 with (fail)
  have K := below_alloc w (.cells #[.int .u32 a, .int .i64 p, .slice A n c, .int .i64 sh, .int .i64 wo, .int .i64 qu, .int .i64 tr] 27)
  have H : Bk (World.alloc (w) (.cells #[.int .u32 a, .int .i64 p, .slice A n c, .int .i64 sh, .int .i64 wo, .int .i64 qu, .int .i64 tr] 27)) (World.heap (w)).size 27 (#[.int .u32 a, .int .i64 p, .slice A n c, .int .i64 sh, .int .i64 wo, .int .i64 qu, .int .i64 tr]) := Bk.new _ _ _
  replace H := H.alloc (.cells (opv ⟨A0, n0, c0, A1, n1, c1, A2, n2, c2, A3, n3, c3⟩ s) 38)
  replace K := Below.then_ K (below_alloc _ (.cells (opv ⟨A0, n0, c0, A1, n1, c1, A2, n2, c2, A3, n3, c3⟩ s) 38))
  have O : Bk (World.alloc ((w).alloc (.cells #[.int .u32 a, .int .i64 p, .slice A n c, .int .i64 sh, .int .i64 wo, .int .i64 qu, .int .i64 tr] 27)) (.cells (opv ⟨A0, n0, c0, A1, n1, c1, A2, n2, c2, A3, n3, c3⟩ s) 38)) (World.heap ((w).alloc (.cells #[.int .u32 a, .int .i64 p, .slice A n c, .int .i64 sh, .int .i64 wo, .int .i64 qu, .int .i64 tr] 27))).size 38 (opv ⟨A0, n0, c0, A1, n1, c1, A2, n2, c2, A3, n3, c3⟩ s) := Bk.new _ _ _
  try simp only [World.size_alloc] at H O
  generalize ((w).alloc (.cells #[.int .u32 a, .int .i64 p, .slice A n c, .int .i64 sh, .int .i64 wo, .int .i64 qu, .int .i64 tr] 27)).alloc (.cells (opv ⟨A0, n0, c0, A1, n1, c1, A2, n2, c2, A3, n3, c3⟩ s) 38) = w1 at H O K ⊢
  obtain ⟨gO, hgO⟩ : ∃ g, g = w.heap.size + 1 := ⟨_, rfl⟩
  rw [← hgO] at O ⊢
  obtain ⟨gH, hgH⟩ : ∃ g, g = w.heap.size := ⟨_, rfl⟩
  rw [← hgH] at H ⊢
  have H_b : w.heap.size ≤ gH := by omega
  have O_b : w.heap.size ≤ gO := by omega
  have ne_H_O : gH ≠ gO := by omega
  clear hgH hgO
  go_wp2_with fail
  refine (awake_any _).mono ?_
  rintro e w2 ⟨rfl, K'⟩
  replace H := H.below K'
  replace O := O.below K'
  replace K := Below.then_ K K'
  clear K'
  go_wp2_with (refine wpList_load_want (by rfl) 27 (.tmp 2) rfl gH rfl _ _ (0, 0) _ H Try.underlying27 rfl cf_sz ?_)
  refine (rmay_is ha (h0.below K) hb.out).mono ?_
  rintro e w3 ⟨rfl, K'⟩
  replace H := H.below K'
  replace O := O.below K'
  replace K := Below.then_ K K'
  clear K'
  go_wp2_with (first | (refine wpList_load_want (by rfl) 27 (.tmp 2) rfl gH rfl _ _ (0, 0) _ H Try.underlying27 rfl cf_sz ?_) | (refine wpList_load_want (by rfl) 38 (.tmp 3) rfl gO rfl _ _ (0, 0) _ O Try.underlying38 rfl op_sz ?_))
  refine (whole_any hM (hI.below K) hxs.out).mono ?_
  rintro e w4 ⟨bo, rfl, hB, K'⟩
  replace H := H.below K'
  replace O := O.below K'
  replace K := Below.then_ K K'
  clear K'
  rcases bo with _ | _
  · clear hB
    go_wp2_with fail
    refine (awake_any _).mono ?_
    rintro e w94 ⟨rfl, K'⟩
    replace K := Below.then_ K K'
    go_wp2
    go_ret
    exact ⟨rfl, K⟩
  replace hB := hB rfl
  obtain ⟨_, _, _, ⟨q7, q8, q9, q10⟩, hin⟩ := hB
  dsimp only at q7 q8 q9 q10 hin
  have N0 : n0 ≤ 65536 := by omega
  have N1 : n1 ≤ 65536 := by omega
  have N2 : n2 ≤ 65536 := by omega
  have N3 : n3 ≤ 65536 := by omega
  have H_lt := H.lt
  have O_lt := O.lt
  have KS := K.size
  go_upto_region 4 with (first | (refine wpList_load_row rfl 38 (.tmp 3) rfl gO rfl _ _ (0, 0) _ O Try.underlying38 rfl op_sz ?_) | (refine wpList_store_row rfl 38 (.tmp 5) (.tmp 23) rfl _ _ rfl rfl _ _ (Bk.new _ _ _) op_sz rfl (opv_one _ _) ?_))
  rw [World.setRow_alloc_new]
  replace H := H.alloc (.cells (opv ⟨A0, n0, c0, A1, n1, c1, A2, n2, c2, A3, n3, c3⟩ s) 38)
  replace O := O.alloc (.cells (opv ⟨A0, n0, c0, A1, n1, c1, A2, n2, c2, A3, n3, c3⟩ s) 38)
  replace K := Below.then_ K (below_alloc _ (.cells (opv ⟨A0, n0, c0, A1, n1, c1, A2, n2, c2, A3, n3, c3⟩ s) 38))
  have X : Bk (World.alloc (w4) (.cells (opv ⟨A0, n0, c0, A1, n1, c1, A2, n2, c2, A3, n3, c3⟩ s) 38)) (World.heap (w4)).size 38 (opv ⟨A0, n0, c0, A1, n1, c1, A2, n2, c2, A3, n3, c3⟩ s) := Bk.new _ _ _
  try simp only [World.size_alloc] at X
  generalize (w4).alloc (.cells (opv ⟨A0, n0, c0, A1, n1, c1, A2, n2, c2, A3, n3, c3⟩ s) 38) = w5 at H O X K ⊢
  obtain ⟨gX, hgX⟩ : ∃ g, g = w4.heap.size := ⟨_, rfl⟩
  rw [← hgX] at X ⊢
  have X_b : w.heap.size ≤ gX := by have := KS; omega
  have ne_H_X : gH ≠ gX := by have := H_lt; omega
  have ne_O_X : gO ≠ gX := by have := O_lt; omega
  clear hgX
  clear H_lt O_lt KS
  have X_18 := X.at_ (v := .int .i64 s.item) 18 rfl
  have X_z := X.lt
  have X_f18 := X.fz 18
  go_upto_region 5 with (fail)
  replace H := H.far (p := ⟨gX, 18, none⟩) ne_H_X (.int .i64 0)
  replace O := O.far (p := ⟨gX, 18, none⟩) ne_O_X (.int .i64 0)
  replace X := X.set_ 18 (.int .i64 0)
  replace K := K.setCell (p := ⟨gX, 18, none⟩) X_b (.int .i64 0)
  replace X : Bk ((w5).setCell ⟨gX, 18, none⟩ (.int .i64 0)) gX 38 (opv ⟨A0, n0, c0, A1, n1, c1, A2, n2, c2, A3, n3, c3⟩ ⟨s.kind, s.addr, s.err, s.aad, s.used, s.phase, s.shard, s.sought, s.leaf, s.bit, s.word, s.full, s.at_, s.tries, 0, s.stamp⟩) := X
  clear X_18 X_z X_f18
  generalize (w5).setCell ⟨gX, 18, none⟩ (.int .i64 0) = w6 at H O X K ⊢
  go_wp2
  go_loopw [6] (fun i wr => ∃ (k : Nat) (sx : Sc) (A0' A1' A2' A3' : Option Addr) (c0' c1' c2' c3' lo' : Nat), 1 ≤ k ∧ k ≤ 101 ∧ i = .int .i64 k ∧ Hid (At s sx k) ∧ Below w.heap.size w wr ∧ Bk wr gH 27 #[.int .u32 a, .int .i64 p, .slice A n c, .int .i64 sh, .int .i64 wo, .int .i64 qu, .int .i64 tr] ∧ Bk wr gO 38 (opv ⟨A0, n0, c0, A1, n1, c1, A2, n2, c2, A3, n3, c3⟩ s) ∧ Bk wr gX 38 (opv ⟨A0', n0, c0', A1', n1, c1', A2', n2, c2', A3', n3, c3'⟩ sx) ∧ Lists lo' wr ⟨A0', n0, c0', A1', n1, c1', A2', n2, c2', A3', n3, c3'⟩ l) (fun i _ => n0 - (intOf i).toNat)
  case atStart => exact ⟨1, ⟨s.kind, s.addr, s.err, s.aad, s.used, s.phase, s.shard, s.sought, s.leaf, s.bit, s.word, s.full, s.at_, s.tries, 0, s.stamp⟩, A0, A1, A2, A3, c0, c1, c2, c3, 0, by omega, by omega, rfl, Lib.hid ⟨rfl, rfl, rfl, rfl, rfl, rfl⟩, K, H, O, X, L.below K⟩
  case round =>
    clear K H O X
    obtain ⟨k, sx, A0', A1', A2', A3', c0', c1', c2', c3', lo', hk1, hk, rfl, hat, K, H, O, X, L'⟩ := hrel
    by_cases hlt : k < n0
    · by_cases h4 : s.kind = 4
      · have e4 : (s.kind == 4) = true := by simpa using h4
        obtain ⟨x, hx, hx1, hx2⟩ := hin k hlt
        obtain ⟨b, o, rfl, hbb, hcc⟩ := hI.get (j := k) hlt
        rw [hx] at hcc
        have hfit := hM.fits ha
        have hmo := hM.most
        have TG := fun wq (Lq : Lists lo' wq ⟨A0', n0, c0', A1', n1, c1', A2', n2, c2', A3', n3, c3'⟩ l) => Lib.hid (goes_any (w := wq) (sh := sh) (wo := wo) (qu := qu) (tr := tr) (A := A) (n := n) (c := c) (h := ⟨A0', n0, c0', A1', n1, c1', A2', n2, c2', A3', n3, c3'⟩) (s := sx) ha hM N0 (Lq.asked hrq.out) hin Lq N1 N2 N3)
        have TG := fun wq Lq => (TG wq Lq).out
        replace TG := TG
        have E : gon a n0 xs sx = next_ a xs sx := if_pos (fur_yes hat.out h4 hk1 hlt)
        obtain ⟨D, hD⟩ : ∃ D : Nat, D = x - a := ⟨_, rfl⟩
        obtain ⟨Q, hQ⟩ : ∃ Q : Nat, Q = D / 32 := ⟨_, rfl⟩
        obtain ⟨R, hR⟩ : ∃ R : Nat, R = D % 32 := ⟨_, rfl⟩
        have hi1 : sx.item.toNat + 1 = k := by have := hat.out.2.2.2.2.2; omega
        have hi2 : sx.item + 1 = (k : Int) := by have := hat.out.2.2.2.2.2; omega
        have EQ : ((ofs a xs (sx.item.toNat + 1) / 32 : Nat) : Int) = (Q : Int) := by rw [hi1]; unfold ofs; rw [hx, Int.toNat_natCast, ← hD, ← hQ]
        have ER : ((ofs a xs (sx.item.toNat + 1) % 32 : Nat) : Int) = (R : Int) := by rw [hi1]; unfold ofs; rw [hx, Int.toNat_natCast, ← hD, ← hR]
        have T1 : ∀ w, Hid (Calls Try.prog 27 #[.agg #[.int .u32 a, .int .i64 p], .int .u32 x] w fun e w' => e = .returned (.tuple #[.int .i64 (D : Nat), .int .i64 0]) ∧ Below w.heap.size w w') := fun w => by rw [hD]; exact roffset_in x (by omega) hM hx1 hx2
        have hQ2 : Q ≤ 2048 := by omega
        have hR2 : R < 32 := by omega
        have f1 : ((32 * (Q : Int) + (R : Int)) != (D : Int)) = false := by simp; omega
        have f2 : ((k : Int) != (k : Int)) = false := by simp
        have f3 : ((Q : Int) * 32 + (R : Int) != (D : Int)) = false := by simp; omega
        replace EQ := Lib.hid EQ
        replace ER := Lib.hid ER
        replace hi2 := Lib.hid hi2
        replace h4 := Lib.hid h4
        clear hD hQ hR hi1 hx hx1 hx2
        rw [E] at TG
        clear E
        have O_2 := O.at_ (v := .slice (some ⟨b, o, none⟩) n0 c0) 2 rfl
        have O_0 := O.at_ (v := .int .i64 s.kind) 0 rfl
        have O_z := O.lt
        go_upto_region 8 with (fail)
        clear O_2 O_0 O_z
        go_wp2_with (first | (refine wpList_load_row rfl 27 (.tmp 2) rfl gH rfl _ _ (0, 0) _ H Try.underlying27 rfl cf_sz ?_) | (refine wpList_load_row rfl 38 (.tmp 5) rfl gX rfl _ _ (0, 0) _ X Try.underlying38 rfl op_sz ?_))
        refine (TG _ L').mono ?_
        have hlx := X.lt
        clear L'
        rintro e w51 ⟨A0', c0', A1', c1', A2', c2', A3', c3', rfl, L', K'⟩
        replace H := H.below K'
        replace O := O.below K'
        replace X := X.below K'
        replace K := Below.then_ K K'
        clear K'
        generalize wr.heap.size = lo2 at L' hlx
        go_upto_region 9 with (refine wpList_store_row rfl 38 (.tmp 5) (.tmp 41) rfl gX _ rfl rfl _ _ X op_sz rfl (opv_one _ _) ?_)
        replace H := H.row_far ne_H_X (opv ⟨A0', n0, c0', A1', n1, c1', A2', n2, c2', A3', n3, c3'⟩ (next_ a xs sx))
        replace O := O.row_far ne_O_X (opv ⟨A0', n0, c0', A1', n1, c1', A2', n2, c2', A3', n3, c3'⟩ (next_ a xs sx))
        replace X := X.row (opv ⟨A0', n0, c0', A1', n1, c1', A2', n2, c2', A3', n3, c3'⟩ (next_ a xs sx))
        replace L' := L'.set_row hlx (opv ⟨A0', n0, c0', A1', n1, c1', A2', n2, c2', A3', n3, c3'⟩ (next_ a xs sx))
        replace K := below_setRow K X_b (opv ⟨A0', n0, c0', A1', n1, c1', A2', n2, c2', A3', n3, c3'⟩ (next_ a xs sx))
        generalize w51.setRow gX (opv ⟨A0', n0, c0', A1', n1, c1', A2', n2, c2', A3', n3, c3'⟩ (next_ a xs sx)) = w52 at H O X L' K ⊢
        clear hlx
        have e2 : ((k : Int)).toNat = k := by omega
        have e3 : (k : Int) < (n0 : Int) := by omega
        refine wp_region_held_drew (S := fun w' => Below w.heap.size w w' ∧ Bk w' gH 27 (#[.int .u32 a, .int .i64 p, .slice A n c, .int .i64 sh, .int .i64 wo, .int .i64 qu, .int .i64 tr]) ∧ Bk w' gO 38 (opv ⟨(some ⟨b, o, none⟩), n0, c0, A1, n1, c1, A2, n2, c2, A3, n3, c3⟩ s) ∧ Bk w' gX 38 (opv ⟨A0', n0, c0', A1', n1, c1', A2', n2, c2', A3', n3, c3'⟩ (next_ a xs sx)) ∧ Lists lo2 w' ⟨A0', n0, c0', A1', n1, c1', A2', n2, c2', A3', n3, c3'⟩ l ∧ True) (by kernel_rfl) ⟨K.drew, H.below ((Below.refl _ _).drew), O.below ((Below.refl _ _).drew), X.below ((Below.refl _ _).drew), L'.below ((Below.refl _ _).drew), trivial⟩ (fun hHeld => ?_)
        generalize w52.drew = v53 at hHeld ⊢
        refine wpAnyH_take (i := 0) (oi := ⟨some 43, _, _, _, _, _⟩) (v := ?_) rfl (by kernel_rfl) (by kernel_rfl) (by kernel_rfl) (fun _ _ _ h => h) (Or.inl ⟨by rfl, ?_⟩) hHeld ?_
        rotate_left
        · intro ww hSw
          try dsimp only at hSw
          go_simp
          try with_reducible rfl
          try omega
        try simp only [Act.put, List.setIfInBounds_toArray, List.set_cons_zero, List.set_cons_succ]
        refine wpAnyH_take (i := 1) (oi := ⟨some 44, _, _, _, _, _⟩) (v := ?_) rfl (by kernel_rfl) (by kernel_rfl) (by kernel_rfl) (fun _ _ _ h => h) (Or.inl ⟨by rfl, ?_⟩) hHeld ?_
        rotate_left
        · intro ww hSw
          try dsimp only at hSw
          have H_0 := hSw.2.1.at_ (v := .int .u32 a) 0 rfl
          have H_1 := hSw.2.1.at_ (v := .int .i64 p) 1 rfl
          have O_2 := hSw.2.2.1.at_ (v := .slice (some ⟨b, o, none⟩) n0 c0) 2 rfl
          have XX := (hSw.1.cell (p := ⟨b, o + k, none⟩) hbb).trans hcc
          go_simp
          try with_reducible rfl
          try omega
        try simp only [Act.put, List.setIfInBounds_toArray, List.set_cons_zero, List.set_cons_succ]
        refine wpAnyH_take (i := 2) (oi := ⟨some 45, _, _, _, _, _⟩) (v := ?_) rfl (by kernel_rfl) (by kernel_rfl) (by kernel_rfl) (fun _ _ _ h => h) (Or.inl ⟨by rfl, ?_⟩) hHeld ?_
        rotate_left
        · intro ww hSw
          try dsimp only at hSw
          go_simp
          try with_reducible rfl
          try omega
        try simp only [Act.put, List.setIfInBounds_toArray, List.set_cons_zero, List.set_cons_succ]
        refine wpAnyH_take (i := 3) (oi := ⟨some 46, _, _, _, _, _⟩) (v := ?_) rfl (by kernel_rfl) (by kernel_rfl) (by kernel_rfl) (fun _ _ _ h => h) (Or.inl ⟨by rfl, ?_⟩) hHeld ?_
        rotate_left
        · intro ww hSw
          try dsimp only at hSw
          go_simp
          try with_reducible rfl
          try omega
        try simp only [Act.put, List.setIfInBounds_toArray, List.set_cons_zero, List.set_cons_succ]
        refine wpAnyH_take (i := 4) (oi := ⟨some 47, _, _, _, _, _⟩) (v := ?_) rfl (by kernel_rfl) (by kernel_rfl) (by kernel_rfl) (fun _ _ _ h => h) (Or.inl ⟨by rfl, ?_⟩) hHeld ?_
        rotate_left
        · intro ww hSw
          try dsimp only at hSw
          have H_0 := hSw.2.1.at_ (v := .int .u32 a) 0 rfl
          have H_1 := hSw.2.1.at_ (v := .int .i64 p) 1 rfl
          have O_2 := hSw.2.2.1.at_ (v := .slice (some ⟨b, o, none⟩) n0 c0) 2 rfl
          have XX := (hSw.1.cell (p := ⟨b, o + k, none⟩) hbb).trans hcc
          go_simp
          try with_reducible rfl
          try omega
        try simp only [Act.put, List.setIfInBounds_toArray, List.set_cons_zero, List.set_cons_succ]
        refine wpAnyH_take (i := 5) (oi := ⟨some 48, _, _, _, _, _⟩) (v := ?_) rfl (by kernel_rfl) (by kernel_rfl) (by kernel_rfl) (fun _ _ _ h => h) (Or.inl ⟨by rfl, ?_⟩) hHeld ?_
        rotate_left
        · intro ww hSw
          try dsimp only at hSw
          go_simp
          try with_reducible rfl
          try omega
        try simp only [Act.put, List.setIfInBounds_toArray, List.set_cons_zero, List.set_cons_succ]
        refine wpAnyH_take (i := 6) (oi := ⟨some 49, _, _, _, _, _⟩) (v := .pointer (some ⟨b, o + k, none⟩)) rfl (by kernel_rfl) (by kernel_rfl) (by kernel_rfl) (fun _ _ _ h => h) (Or.inl ⟨by rfl, ?_⟩) hHeld ?_
        · intro ww hSw
          try dsimp only at hSw
          go_simp
          try with_reducible rfl
          try omega
        try simp only [Act.put, List.setIfInBounds_toArray, List.set_cons_zero, List.set_cons_succ]
        refine wpAnyH_take (i := 7) (oi := ⟨some 50, _, _, _, _, _⟩) (v := ?_) rfl (by kernel_rfl) (by kernel_rfl) (by kernel_rfl) (fun _ _ _ h => h) (Or.inl ⟨by rfl, ?_⟩) hHeld ?_
        rotate_left
        · intro ww hSw
          try dsimp only at hSw
          have H_0 := hSw.2.1.at_ (v := .int .u32 a) 0 rfl
          have H_1 := hSw.2.1.at_ (v := .int .i64 p) 1 rfl
          have O_2 := hSw.2.2.1.at_ (v := .slice (some ⟨b, o, none⟩) n0 c0) 2 rfl
          have XX := (hSw.1.cell (p := ⟨b, o + k, none⟩) hbb).trans hcc
          go_simp
          try with_reducible rfl
          try omega
        try simp only [Act.put, List.setIfInBounds_toArray, List.set_cons_zero, List.set_cons_succ]
        refine wpAnyH_ready (rs := [8]) (by kernel_rfl) (by simp) ?_
        refine AllReadyH.cons (o := ⟨some 51, _, _, _, _, _⟩) rfl (fun K0 hK => ?_) AllReadyH.nil
        go_simp
        refine ((T1 _).out).mono ?_
        rintro e v54 ⟨rfl, K'⟩
        refine hK.out _ _ ⟨Below.then_ hHeld.1 K', hHeld.2.1.below K', hHeld.2.2.1.below K', hHeld.2.2.2.1.below K', hHeld.2.2.2.2.1.below K', trivial⟩ (fun hHeld' => ?_)
        clear hHeld K' hK K0
        have hHeld := hHeld'
        clear hHeld'
        try simp only [Act.put, List.setIfInBounds_toArray, List.set_cons_zero, List.set_cons_succ]
        refine wpAnyH_take (i := 9) (oi := ⟨some 42, _, _, _, _, _⟩) (v := ?_) rfl (by kernel_rfl) (by kernel_rfl) (by kernel_rfl) (fun _ _ _ h => h) (Or.inl ⟨by rfl, ?_⟩) hHeld ?_
        rotate_left
        · intro ww hSw
          try dsimp only at hSw
          go_simp
          try with_reducible rfl
          try omega
        try simp only [Act.put, List.setIfInBounds_toArray, List.set_cons_zero, List.set_cons_succ]
        refine wpAnyH_take (i := 10) (oi := ⟨some 52, _, _, _, _, _⟩) (v := ?_) rfl (by kernel_rfl) (by kernel_rfl) (by kernel_rfl) (fun _ _ _ h => h) (Or.inl ⟨by rfl, ?_⟩) hHeld ?_
        rotate_left
        · intro ww hSw
          try dsimp only at hSw
          go_simp
          try with_reducible rfl
          try omega
        try simp only [Act.put, List.setIfInBounds_toArray, List.set_cons_zero, List.set_cons_succ]
        refine wpAnyH_take (i := 11) (oi := ⟨some 53, _, _, _, _, _⟩) (v := ?_) rfl (by kernel_rfl) (by kernel_rfl) (by kernel_rfl) (fun _ _ _ h => h) (Or.inl ⟨by rfl, ?_⟩) hHeld ?_
        rotate_left
        · intro ww hSw
          try dsimp only at hSw
          go_simp
          try with_reducible rfl
          try omega
        try simp only [Act.put, List.setIfInBounds_toArray, List.set_cons_zero, List.set_cons_succ]
        refine wpAnyH_take (i := 12) (oi := ⟨some 7, _, _, _, _, _⟩) (v := ?_) rfl (by kernel_rfl) (by kernel_rfl) (by kernel_rfl) (fun _ _ _ h => h) (Or.inl ⟨by rfl, ?_⟩) hHeld ?_
        rotate_left
        · intro ww hSw
          try dsimp only at hSw
          go_simp
          try with_reducible rfl
          try omega
        try simp only [Act.put, List.setIfInBounds_toArray, List.set_cons_zero, List.set_cons_succ]
        refine wpAnyH_take (i := 13) (oi := ⟨some 8, _, _, _, _, _⟩) (v := ?_) rfl (by kernel_rfl) (by kernel_rfl) (by kernel_rfl) (fun _ _ _ h => h) (Or.inl ⟨by rfl, ?_⟩) hHeld ?_
        rotate_left
        · intro ww hSw
          try dsimp only at hSw
          go_simp
          try with_reducible rfl
          try omega
        try simp only [Act.put, List.setIfInBounds_toArray, List.set_cons_zero, List.set_cons_succ]
        refine wpAnyH_done (by kernel_rfl) ?_ _
        replace K := hHeld.1
        replace H := hHeld.2.1
        replace O := hHeld.2.2.1
        replace X := hHeld.2.2.2.1
        replace L' := hHeld.2.2.2.2.1
        clear hHeld
        have X_18 : v54.cell? ⟨gX, 18, none⟩ = some (.int .i64 (k : Int)) := (X.at_ (v := .int .i64 (sx.item + 1)) 18 rfl).trans (by rw [hi2.out])
        have X_11 : v54.cell? ⟨gX, 11, none⟩ = some (.int .i64 (Q : Int)) := (X.at_ (v := .int .i64 ((ofs a xs (sx.item.toNat + 1) / 32 : Nat) : Int)) 11 rfl).trans (by rw [EQ.out])
        have X_12 : v54.cell? ⟨gX, 12, none⟩ = some (.int .i64 (R : Int)) := (X.at_ (v := .int .i64 ((ofs a xs (sx.item.toNat + 1) % 32 : Nat) : Int)) 12 rfl).trans (by rw [ER.out])
        have X_8 := X.at_ (v := .int .i64 8) 8 rfl
        have X_14 := X.at_ (v := .bool false) 14 rfl
        have X_13 := X.at_ (v := .int .u64 0) 13 rfl
        have X_16 := X.at_ (v := .int .i64 0) 16 rfl
        have X_z := X.lt
        go_wp2
        go_roundw
        case rel => exact ⟨k + 1, next_ a xs sx, A0', A1', A2', A3', c0', c1', c2', c3', lo2, by omega, by omega, by go_num, Lib.hid (at_next hat.out), K, H, O, X, L'⟩
        case measure => simp [intOf]; omega
      · have e4 : (s.kind == 4) = false := by simpa using h4
        have hno : s.kind ≠ 4 ∨ n0 ≤ k := .inl h4
        clear h4
        have TG := fun wq (Lq : Lists lo' wq ⟨A0', n0, c0', A1', n1, c1', A2', n2, c2', A3', n3, c3'⟩ l) => Lib.hid (goes_any (w := wq) (sh := sh) (wo := wo) (qu := qu) (tr := tr) (A := A) (n := n) (c := c) (h := ⟨A0', n0, c0', A1', n1, c1', A2', n2, c2', A3', n3, c3'⟩) (s := sx) ha hM N0 (Lq.asked hrq.out) hin Lq N1 N2 N3)
        replace TG := fun wq Lq => (TG wq Lq).out
        rw [show gon a n0 xs sx = ende sx from if_neg (by rw [fur_no hat.out hno]; simp)] at TG
        clear hno
        have O_2 := O.at_ (v := .slice A0 n0 c0) 2 rfl
        have O_0 := O.at_ (v := .int .i64 s.kind) 0 rfl
        have O_z := O.lt
        go_upto_region 12 with (fail)
        clear O_2 O_0 O_z
        go_wp2_with (first | (refine wpList_load_row rfl 27 (.tmp 2) rfl gH rfl _ _ (0, 0) _ H Try.underlying27 rfl cf_sz ?_) | (refine wpList_load_row rfl 38 (.tmp 5) rfl gX rfl _ _ (0, 0) _ X Try.underlying38 rfl op_sz ?_))
        refine (TG _ L').mono ?_
        have hlx := X.lt
        clear L'
        rintro e w51 ⟨A0', c0', A1', c1', A2', c2', A3', c3', rfl, L', K'⟩
        replace H := H.below K'
        replace O := O.below K'
        replace X := X.below K'
        replace K := Below.then_ K K'
        clear K'
        generalize wr.heap.size = lo2 at L' hlx
        go_upto_region 13 with (refine wpList_store_row rfl 38 (.tmp 5) (.tmp 89) rfl gX _ rfl rfl _ _ X op_sz rfl (opv_one _ _) ?_)
        replace H := H.row_far ne_H_X (opv ⟨A0', n0, c0', A1', n1, c1', A2', n2, c2', A3', n3, c3'⟩ (ende sx))
        replace O := O.row_far ne_O_X (opv ⟨A0', n0, c0', A1', n1, c1', A2', n2, c2', A3', n3, c3'⟩ (ende sx))
        replace X := X.row (opv ⟨A0', n0, c0', A1', n1, c1', A2', n2, c2', A3', n3, c3'⟩ (ende sx))
        replace L' := L'.set_row hlx (opv ⟨A0', n0, c0', A1', n1, c1', A2', n2, c2', A3', n3, c3'⟩ (ende sx))
        replace K := below_setRow K X_b (opv ⟨A0', n0, c0', A1', n1, c1', A2', n2, c2', A3', n3, c3'⟩ (ende sx))
        generalize w51.setRow gX (opv ⟨A0', n0, c0', A1', n1, c1', A2', n2, c2', A3', n3, c3'⟩ (ende sx)) = w52 at H O X L' K ⊢
        clear hlx
        have X_8 := X.at_ (v := .int .i64 0) 8 rfl
        have O_0 := O.at_ (v := .int .i64 s.kind) 0 rfl
        have X_0 : w52.cell? ⟨gX, 0, none⟩ = some (.int .i64 s.kind) := (X.at_ (v := .int .i64 sx.kind) 0 rfl).trans (by rw [hat.out.1])
        have O_1 := O.at_ (v := .int .u32 s.addr) 1 rfl
        have X_1 : w52.cell? ⟨gX, 1, none⟩ = some (.int .u32 s.addr) := (X.at_ (v := .int .u32 sx.addr) 1 rfl).trans (by rw [hat.out.2.1])
        have O_2 := O.at_ (v := .slice A0 n0 c0) 2 rfl
        have X_2 := X.at_ (v := .slice A0' n0 c0') 2 rfl
        have X_z := X.lt
        have O_z := O.lt
        go_wp2_with fail
        refine (asks_same (L'.asked hrq.out) (hI.below K) N0).mono ?_
        rintro e w53 ⟨rfl, K'⟩
        clear X_8 X_0 X_1 X_2 O_0 O_1 O_2 X_z O_z
        replace H := H.below K'
        replace O := O.below K'
        replace X := X.below K'
        replace L' := L'.below K'
        replace K := Below.then_ K K'
        clear K'
        have O_3 := O.at_ (v := .int .i64 s.err) 3 rfl
        have X_3 : w53.cell? ⟨gX, 3, none⟩ = some (.int .i64 s.err) := (X.at_ (v := .int .i64 sx.err) 3 rfl).trans (by rw [hat.out.2.2.1])
        have O_4 := O.at_ (v := .int .u32 s.aad) 4 rfl
        have X_4 : w53.cell? ⟨gX, 4, none⟩ = some (.int .u32 s.aad) := (X.at_ (v := .int .u32 sx.aad) 4 rfl).trans (by rw [hat.out.2.2.2.1])
        have O_5 := O.at_ (v := .bool s.used) 5 rfl
        have X_5 : w53.cell? ⟨gX, 5, none⟩ = some (.bool s.used) := (X.at_ (v := .bool sx.used) 5 rfl).trans (by rw [hat.out.2.2.2.2.1])
        have O_6 := O.at_ (v := .slice A1 n1 c1) 6 rfl
        have X_6 := X.at_ (v := .slice A1' n1 c1') 6 rfl
        have O_7 := O.at_ (v := .slice A2 n2 c2) 7 rfl
        have X_7 := X.at_ (v := .slice A2' n2 c2') 7 rfl
        have X_z := X.lt
        have O_z := O.lt
        go_wp2_with fail
        refine (answers_same L'.i1 (L.below K).i1 L'.i2 (L.below K).i2 N1 N2).mono ?_
        rintro e w54 ⟨rfl, K'⟩
        replace K := Below.then_ K K'
        go_wp2
        go_ret
        exact ⟨rfl, K⟩
    · have e4 : decide ((k : Int) < (n0 : Int)) = false := by simp; omega
      have hno : s.kind ≠ 4 ∨ n0 ≤ k := .inr (by omega)
      have TG := fun wq (Lq : Lists lo' wq ⟨A0', n0, c0', A1', n1, c1', A2', n2, c2', A3', n3, c3'⟩ l) => Lib.hid (goes_any (w := wq) (sh := sh) (wo := wo) (qu := qu) (tr := tr) (A := A) (n := n) (c := c) (h := ⟨A0', n0, c0', A1', n1, c1', A2', n2, c2', A3', n3, c3'⟩) (s := sx) ha hM N0 (Lq.asked hrq.out) hin Lq N1 N2 N3)
      replace TG := fun wq Lq => (TG wq Lq).out
      rw [show gon a n0 xs sx = ende sx from if_neg (by rw [fur_no hat.out hno]; simp)] at TG
      clear hno
      have O_2 := O.at_ (v := .slice A0 n0 c0) 2 rfl
      have O_0 := O.at_ (v := .int .i64 s.kind) 0 rfl
      have O_z := O.lt
      go_upto_region 12 with (fail)
      clear O_2 O_0 O_z
      go_wp2_with (first | (refine wpList_load_row rfl 27 (.tmp 2) rfl gH rfl _ _ (0, 0) _ H Try.underlying27 rfl cf_sz ?_) | (refine wpList_load_row rfl 38 (.tmp 5) rfl gX rfl _ _ (0, 0) _ X Try.underlying38 rfl op_sz ?_))
      refine (TG _ L').mono ?_
      have hlx := X.lt
      clear L'
      rintro e w51 ⟨A0', c0', A1', c1', A2', c2', A3', c3', rfl, L', K'⟩
      replace H := H.below K'
      replace O := O.below K'
      replace X := X.below K'
      replace K := Below.then_ K K'
      clear K'
      generalize wr.heap.size = lo2 at L' hlx
      go_upto_region 13 with (refine wpList_store_row rfl 38 (.tmp 5) (.tmp 89) rfl gX _ rfl rfl _ _ X op_sz rfl (opv_one _ _) ?_)
      replace H := H.row_far ne_H_X (opv ⟨A0', n0, c0', A1', n1, c1', A2', n2, c2', A3', n3, c3'⟩ (ende sx))
      replace O := O.row_far ne_O_X (opv ⟨A0', n0, c0', A1', n1, c1', A2', n2, c2', A3', n3, c3'⟩ (ende sx))
      replace X := X.row (opv ⟨A0', n0, c0', A1', n1, c1', A2', n2, c2', A3', n3, c3'⟩ (ende sx))
      replace L' := L'.set_row hlx (opv ⟨A0', n0, c0', A1', n1, c1', A2', n2, c2', A3', n3, c3'⟩ (ende sx))
      replace K := below_setRow K X_b (opv ⟨A0', n0, c0', A1', n1, c1', A2', n2, c2', A3', n3, c3'⟩ (ende sx))
      generalize w51.setRow gX (opv ⟨A0', n0, c0', A1', n1, c1', A2', n2, c2', A3', n3, c3'⟩ (ende sx)) = w52 at H O X L' K ⊢
      clear hlx
      have X_8 := X.at_ (v := .int .i64 0) 8 rfl
      have O_0 := O.at_ (v := .int .i64 s.kind) 0 rfl
      have X_0 : w52.cell? ⟨gX, 0, none⟩ = some (.int .i64 s.kind) := (X.at_ (v := .int .i64 sx.kind) 0 rfl).trans (by rw [hat.out.1])
      have O_1 := O.at_ (v := .int .u32 s.addr) 1 rfl
      have X_1 : w52.cell? ⟨gX, 1, none⟩ = some (.int .u32 s.addr) := (X.at_ (v := .int .u32 sx.addr) 1 rfl).trans (by rw [hat.out.2.1])
      have O_2 := O.at_ (v := .slice A0 n0 c0) 2 rfl
      have X_2 := X.at_ (v := .slice A0' n0 c0') 2 rfl
      have X_z := X.lt
      have O_z := O.lt
      go_wp2_with fail
      refine (asks_same (L'.asked hrq.out) (hI.below K) N0).mono ?_
      rintro e w53 ⟨rfl, K'⟩
      clear X_8 X_0 X_1 X_2 O_0 O_1 O_2 X_z O_z
      replace H := H.below K'
      replace O := O.below K'
      replace X := X.below K'
      replace L' := L'.below K'
      replace K := Below.then_ K K'
      clear K'
      have O_3 := O.at_ (v := .int .i64 s.err) 3 rfl
      have X_3 : w53.cell? ⟨gX, 3, none⟩ = some (.int .i64 s.err) := (X.at_ (v := .int .i64 sx.err) 3 rfl).trans (by rw [hat.out.2.2.1])
      have O_4 := O.at_ (v := .int .u32 s.aad) 4 rfl
      have X_4 : w53.cell? ⟨gX, 4, none⟩ = some (.int .u32 s.aad) := (X.at_ (v := .int .u32 sx.aad) 4 rfl).trans (by rw [hat.out.2.2.2.1])
      have O_5 := O.at_ (v := .bool s.used) 5 rfl
      have X_5 : w53.cell? ⟨gX, 5, none⟩ = some (.bool s.used) := (X.at_ (v := .bool sx.used) 5 rfl).trans (by rw [hat.out.2.2.2.2.1])
      have O_6 := O.at_ (v := .slice A1 n1 c1) 6 rfl
      have X_6 := X.at_ (v := .slice A1' n1 c1') 6 rfl
      have O_7 := O.at_ (v := .slice A2 n2 c2) 7 rfl
      have X_7 := X.at_ (v := .slice A2' n2 c2') 7 rfl
      have X_z := X.lt
      have O_z := O.lt
      go_wp2_with fail
      refine (answers_same L'.i1 (L.below K).i1 L'.i2 (L.below K).i2 N1 N2).mono ?_
      rintro e w54 ⟨rfl, K'⟩
      replace K := Below.then_ K K'
      go_wp2
      go_ret
      exact ⟨rfl, K⟩
end
theorem walk (a p : Int) (A : Option Addr) (n c : Nat) (z : List Int) (sh wo qu tr : Int) (h : Hd) (s : Sc) (y0 y1 y2 y3 : List Int) (w : World) (wa : (Lit.int .u32 a).wf = true) (wr : IsRow .i64 w A n c z) (hw : s.word < 18446744073709551616) (r0 : IsRow .u32 w h.A0 h.n0 h.c0 y0) (r1 : IsRow .u32 w h.A1 h.n1 h.c1 y1) (r2 : IsRow .i64 w h.A2 h.n2 h.c2 y2) (r3 : IsRow .u64 w h.A3 h.n3 h.c3 y3) :
    Calls Try.prog 5 #[.agg #[.int .u32 a, .int .i64 p, .slice A n c, .int .i64 sh, .int .i64 wo, .int .i64 qu, .int .i64 tr], .agg (opv h s)] w fun e w' => e = .returned (.bool true) ∧ Below w.heap.size w w' := by
  obtain ⟨a, rfl, ha⟩ := wf_u32 wa
  obtain ⟨zs, h0, _⟩ := IS.of_row wr
  obtain ⟨xs, hI, hx⟩ := IS.of_row r0
  obtain ⟨ads, i1, _⟩ := IS.of_row r1
  obtain ⟨ers, i2, _⟩ := IS.of_row r2
  obtain ⟨ses, i3, hf⟩ := IS.of_row r3
  have hxs : ∀ j, j < h.n0 → ∃ x : Nat, gi xs j = (x : Int) ∧ x < 4294967296 := fun j hj => by
    have hl := hI.len
    obtain ⟨X, e, hX⟩ := wf_u32 (hx _ (gi_mem (show j < xs.length by omega)))
    exact ⟨X, e, hX⟩
  cases hb : confB a p n zs sh wo qu tr with
  | false => exact not_may ha h0 hI hxs (l := ⟨xs, ads, ers, ses⟩) ⟨hI, i1, i2, i3⟩ hf hw hb
  | true => exact may ha h0 hI hxs (l := ⟨xs, ads, ers, ses⟩) ⟨hI, i1, i2, i3⟩ hf hw hb (Much.of (confB_no hb).1)
end Go.Proofs.Ytlfdekeahplidaa.hintBatch
