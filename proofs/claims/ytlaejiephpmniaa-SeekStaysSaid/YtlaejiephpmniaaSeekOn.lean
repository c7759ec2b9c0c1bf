/-
  What seek.onward answers: the operation at the next top whose bit in its word isn't set, or in the next shard. Conditions: numbers that fit, tops that are handed out by the iterator.
-/
import Derived.Test.YtlaejiephpmniaaSeekIn
namespace Go.Proofs.Ytlaejiephpmniaa
open Go.RowKit Go.Shelf
set_option linter.unusedVariables false
attribute [local go_sem] Oper.semAt_some
theorem nxt_some {a b at_ x k : Nat} (hk : k < cnt_ a b) (h0 : ∀ j, j < k → hit at_ x (a / 64 + j) = false) (h1 : hit at_ x (a / 64 + k) = true) : nxt a b at_ x = some (a / 64 + k) := by
  obtain ⟨m, hm⟩ : ∃ m, cnt_ a b = k + 1 + m := ⟨cnt_ a b - (k + 1), by omega⟩
  have aux : ∀ j, j ≤ k → (ups (a / 64) j).find? (hit at_ x) = none := fun j => by
    induction j with
    | zero => intro _; rfl
    | succ j ih => intro h; rw [ups_succ, List.find?_append, ih (by omega)]; simp [h0 j (by omega)]
  have aux2 : ∀ m, (ups (a / 64) (k + 1 + m)).find? (hit at_ x) = some (a / 64 + k) := fun m => by
    induction m with
    | zero => rw [Nat.add_zero, ups_succ, List.find?_append, aux k (Nat.le_refl _)]; simp [h1]
    | succ m ih => rw [← Nat.add_assoc, ups_succ, List.find?_append, ih]; rfl
  unfold nxt; rw [hm]; exact aux2 m
theorem nxt_none {a b at_ x : Nat} (h0 : ∀ j, j < cnt_ a b → hit at_ x (a / 64 + j) = false) : nxt a b at_ x = none := by
  unfold nxt
  rw [List.find?_eq_none]
  intro t ht
  have := ups_mem.1 ht
  have e := h0 (t - a / 64) (by omega)
  rw [show a / 64 + (t - a / 64) = t by omega] at e
  simp [e]
theorem fb_set {X q : Nat} (h : X.testBit q = true) : fb (fl_ X q) (q + 1) = false :=
  (fi_not (fun k hk => by
    rw [fl_bit]
    rcases Nat.lt_or_ge k q with h1 | h1
    · simp [h1]
    · rw [show k = q by omega, h]; rfl)).2
theorem fb_not {X q : Nat} (h : X.testBit q = false) : fb (fl_ X q) (q + 1) = true :=
  (fi_of (i := q) (by omega) (by rw [fl_bit, h]; simp) (fun k hk => by rw [fl_bit]; simp [hk])).2
/-- The three boxes that the iterator reads. -/
structure Clo (w : World) (b1 b2 b3 n a b : Nat) : Prop where
  c1 : w.cell? ⟨b1, 0, none⟩ = some (.int .i64 (a : Nat))
  c2 : w.cell? ⟨b2, 0, none⟩ = some (.int .i64 (b : Nat))
  c3 : w.cell? ⟨b3, 0, none⟩ = some (.int .i64 (n : Nat))
  l1 : b1 < w.heap.size
  l2 : b2 < w.heap.size
  l3 : b3 < w.heap.size
theorem Clo.below {w w' : World} {b1 b2 b3 n a b : Nat} (h : Clo w b1 b2 b3 n a b) (K : Below w.heap.size w w') : Clo w' b1 b2 b3 n a b :=
  ⟨(K.cell (p := ⟨b1, 0, none⟩) h.l1).trans h.c1, (K.cell (p := ⟨b2, 0, none⟩) h.l2).trans h.c2, (K.cell (p := ⟨b3, 0, none⟩) h.l3).trans h.c3, Nat.lt_of_lt_of_le h.l1 K.size, Nat.lt_of_lt_of_le h.l2 K.size, Nat.lt_of_lt_of_le h.l3 K.size⟩
abbrev tpsV (b1 b2 b3 : Nat) : Value := .func (.func 53) #[] #[.pointer (some ⟨b1, 0, none⟩), .pointer (some ⟨b2, 0, none⟩), .pointer (some ⟨b3, 0, none⟩)]
section
variable {w : World} {lo M a b b1 b2 b3 tt ba : Nat} {p sh wo qu tr : Int} {A : Option Addr} {n c : Nat} {h : Hd} {s : Sc} {l : Ls}
set_option maxRecDepth 100000 in
set_option maxHeartbeats 4000000 in
theorem onward_any (hM : M ≤ 65536) (hab : a ≤ b) (hb : b ≤ lv M) (hat : s.at_ = (tt : Int)) (htt : tt ≤ 64) (hw : s.word < 18446744073709551616) (hs0 : 0 ≤ s.sought) (hs1 : s.sought ≤ 65536) (hC : Clo w b1 b2 b3 M a b) :
    Calls Try.prog 30 #[.agg #[.int .u32 (ba : Int), .int .i64 p, .slice A n c, .int .i64 sh, .int .i64 wo, .int .i64 qu, .int .i64 tr], tpsV b1 b2 b3, .agg (opv h s)] w (RetOp (onH sh a b s h) (onS sh a b s) w) := by
  refine (callsIn_wide (n := 5)).1 ?_
  refine callsIn_of_wp_marks Try.func30 rfl trivial ?_ rfl
  simp only [Try.ntmps30, List.size_toArray, List.length_cons, List.length_nil, Nat.reduceAdd, Nat.reduceSub, Array.replicate_succ, Array.replicate_zero, List.push_toArray, List.append_toArray, List.nil_append, List.cons_append]
  have TF := fun X q q1 (hX : X < 18446744073709551616) hq hq1 w => Lib.hid (callsIn_wide (n := 5 - 1 - 1 - 1).2 (hfind_any X q q1 hX hq hq1 w))
  have TE := fun w => Lib.hid (callsIn_wide (n := 5 - 1).2 (else_any (w := w) (a := ba) (p := p) (sh := sh) (wo := wo) (qu := qu) (tr := tr) (A := A) (n := n) (c := c) (h := h) (s := s) hs0 hs1))
  gi_wp2
  have L := Loc.start w
  replace L := (((L).alloc #[.int .u32 (ba : Int), .int .i64 p, .slice A n c, .int .i64 sh, .int .i64 wo, .int .i64 qu, .int .i64 tr] 27).alloc (opv h s) 41).alloc #[.int .i64 0, .int .u32 0, .slice none 0 0, .int .i64 0, .int .u32 0, .bool false, .slice none 0 0, .slice none 0 0, .int .i64 0, .int .i64 0, .int .i64 0, .int .i64 0, .int .i64 0, .int .u64 0, .bool false, .slice none 0 0, .int .i64 0, .int .i64 0, .int .i64 0, .int .i64 0] 41
  try simp only [World.size_alloc] at L
  replace L := L.is 0 (opv hd0 sc0) rfl
  try dsimp only [nput] at L
  generalize (((w).alloc (.cells #[.int .u32 (ba : Int), .int .i64 p, .slice A n c, .int .i64 sh, .int .i64 wo, .int .i64 qu, .int .i64 tr] 27)).alloc (.cells (opv h s) 41)).alloc (.cells #[.int .i64 0, .int .u32 0, .slice none 0 0, .int .i64 0, .int .u32 0, .bool false, .slice none 0 0, .slice none 0 0, .int .i64 0, .int .i64 0, .int .i64 0, .int .i64 0, .int .i64 0, .int .u64 0, .bool false, .slice none 0 0, .int .i64 0, .int .i64 0, .int .i64 0, .int .i64 0] 41) = W0 at L ⊢
  generalize w.heap.size + 1 + 1 = gR at L ⊢
  generalize w.heap.size + 1 = gO at L ⊢
  generalize w.heap.size = gH at L ⊢
  have hz := L.K.size
  have hC0 := hC.below L.K
  refine wpIn_rangeFunc_ownH (F := Fence.wide) rfl (by decide) (gf := 53) (lb := #[.pointer (some ⟨b1, 0, none⟩), .pointer (some ⟨b2, 0, none⟩), .pointer (some ⟨b3, 0, none⟩)]) rfl trivial (enters_of Try.func53 (by kernel_rfl) rfl)
    (tops_stops hM hab hb (5 - 1) (by decide) b1 b2 b3 w.heap.size W0 hz hC0.c1 hC0.c2 hC0.c3 hC.l1 hC.l2 hC.l3) belowK_t (belowK_b hz) (Below.refl _ _) (fun _ => rfl)
    (fun pre W => Loc w W [(gR, 41, opv hd0 sc0), (gO, 41, opv h s), (gH, 27, #[.int .u32 (ba : Int), .int .i64 p, .slice A n c, .int .i64 sh, .int .i64 wo, .int .i64 qu, .int .i64 tr])] [] ∧ ∀ x ∈ pre, hit tt s.word (a / 64 + x.val) = false)
    (fun cc pre W => cc = .ret ∧ ∃ pre' x, pre = pre' ++ [x] ∧ (∀ y ∈ pre', hit tt s.word (a / 64 + y.val) = false) ∧ hit tt s.word (a / 64 + x.val) = true ∧ Loc w W [(gR, 41, opv h (atS s (a / 64 + x.val))), (gO, 41, opv h (atS s (a / 64 + x.val))), (gH, 27, #[.int .u32 (ba : Int), .int .i64 p, .slice A n c, .int .i64 sh, .int .i64 wo, .int .i64 qu, .int .i64 tr])] [])
    (fun pre X Y row hs hg hr => ⟨loc_own hz hs.1 hg hr, hs.2⟩)
    (fun cc pre X Y row hs hg hr => by
      obtain ⟨h1, pre', x, h2, h3, h4, h5⟩ := hs
      exact ⟨h1, pre', x, h2, h3, h4, loc_own hz h5 hg hr⟩)
    ⟨L, by simp⟩
    (fun x a' W => ∃ gT, Bk W gT 75 (tpv M a b (a / 64 + x.val)) ∧ a' = { tmps := #[.agg #[.int .u32 (ba : Int), .int .i64 p, .slice A n c, .int .i64 sh, .int .i64 wo, .int .i64 qu, .int .i64 tr], tpsV b1 b2 b3, .agg (opv h s), .pointer (some ⟨gH, 0, none⟩), undef, .pointer (some ⟨gO, 0, none⟩), .pointer (some ⟨gR, 0, none⟩), .pointer (some ⟨gT, 0, none⟩), undef, undef, tpsV b1 b2 b3, .agg (tpv M a b (a / 64 + x.val)), undef, undef, undef, undef, undef, undef, undef, undef, undef, undef, undef, undef, undef, undef, undef, undef, undef, undef, undef, undef, undef, undef, undef, undef, undef], defers := [] })
    (fun x a' _ X Y row hs hg hr => by
      obtain ⟨gT, h1, h2⟩ := hs
      exact ⟨gT, bk_own h1 hg (fun r e => (hr r e).2), h2⟩)
    ?assign ?body ?done ?stop
  case assign =>
    rintro l pre x W K ⟨L1, hp⟩ hK
    dsimp only [tpe, tpv]
    gi_wp2
    exact hK _ _ ((KeepsOthers.alloc _ _).from _) ((Below.refl _ W).alloc L1.K.size _) ⟨L1.other _, hp⟩ ⟨W.heap.size, Bk.new _ _ _, rfl⟩
  case body =>
    rintro l pre x a' W hl hr ⟨L1, hp⟩ ⟨gT, hT, rfl⟩ hlt
    have ht := bfr_le a b (a / 64 + x.val) (by have := x.isLt; omega)
    have hq64 : a / 64 + x.val < 64 := by have := cnt_top.1 (show a / 64 ≤ a / 64 + x.val ∧ a / 64 + x.val < a / 64 + cnt_ a b by have := x.isLt; omega); have := lv_le hM; omega
    have T_0 : W.cell? ⟨gT, 0, none⟩ = some (.int .i64 ((a / 64 + x.val : Nat))) := hT.at_ 0 rfl
    have T_z := hT.lt
    have O_16 : W.cell? ⟨gO, 16, none⟩ = some (.int .i64 (tt : Nat)) := by rw [← hat]; exact L1.at_ 1 16 rfl rfl
    have O_13 : W.cell? ⟨gO, 13, none⟩ = some (.int .u64 (s.word : Nat)) := L1.at_ 1 13 rfl rfl
    have O_f16 := L1.fz 1 16 rfl
    have O_z := L1.lt 1 rfl
    have hH : hit tt s.word (a / 64 + x.val) = (decide (tt ≤ a / 64 + x.val) && !s.word.testBit (a / 64 + x.val)) := rfl
    have hA1 : atS s (a / 64 + x.val) = ⟨s.kind, s.addr, s.err, s.aad, s.used, s.phase, s.shard, s.sought, s.leaf, s.bit, s.word, s.full, ((a / 64 + x.val + 1 : Nat) : Int), s.tries, s.item, s.stamp⟩ := rfl
    obtain ⟨q1, hq1⟩ : ∃ q1, q1 = a / 64 + x.val + 1 := ⟨_, rfl⟩
    rw [← hq1] at hA1
    have TF1 := TF s.word (a / 64 + x.val) q1 hw (by omega) (by omega)
    have hq2 : ((a / 64 + x.val : Nat) : Int) + 1 = (q1 : Nat) := by omega
    have hfb : fb (fl_ s.word (a / 64 + x.val)) q1 = !s.word.testBit (a / 64 + x.val) := by
      rw [hq1]
      cases hb : s.word.testBit (a / 64 + x.val) with
      | true => exact fb_set hb
      | false => exact fb_not hb
    rw [hfb] at TF1
    clear TF TE hq1 hfb
    have LS := L1.set 1 16 rfl (.int .i64 (q1 : Nat))
    have hS : (opv h s).setIfInBounds 16 (.int .i64 (q1 : Nat)) = opv h (atS s (a / 64 + x.val)) := by rw [hA1]; rfl
    rw [hS] at LS
    dsimp only [nput] at LS
    replace hA1 := Lib.hid hA1
    generalize hAS : atS s (a / 64 + x.val) = s2 at LS
    replace hAS := Lib.hid hAS
    replace hH := Lib.hid hH
    have hpx : ∀ bo, hit tt s.word (a / 64 + x.val) = bo → bo = false → ∀ y ∈ pre ++ [x], hit tt s.word (a / 64 + y.val) = false := fun bo e e' y hy => by
      rcases List.mem_append.1 hy with h1 | h1
      · exact hp y h1
      · rw [List.mem_singleton.1 h1, e, e']
    replace hpx := Lib.hid hpx
    generalize hqq : a / 64 + x.val = q at *
    replace hqq := Lib.hid hqq
    generalize fi (fl_ s.word q) q1 = f at TF1
    replace hS := Lib.hid hS
    by_cases hlt2 : q < tt
    · gi_wp2
      exact ⟨KeepsFrom.refl _ _, Below.refl _ _, L1, hpx.out _ hH.out (by simp; omega)⟩
    · cases hbit : s.word.testBit q with
      | true =>
        rw [hbit] at TF1 hH
        replace hbit := Lib.hid hbit
        gi_wp2_with (refine ⟨trivial, ?_⟩; (with_reducible refine CallsIn.mono (CallsIn.inRound l (TF1 _).out) ?_); rintro e w' ⟨rfl, rfl⟩)
        exact ⟨KeepsFrom.refl _ _, Below.refl _ _, L1, hpx.out _ hH.out (by simp)⟩
      | false =>
        rw [hbit] at TF1 hH
        replace hbit := Lib.hid hbit
        gi_wp2_with (first
          | (refine ⟨trivial, ?_⟩; (with_reducible refine CallsIn.mono (CallsIn.inRound l (TF1 _).out) ?_); rintro e w' ⟨rfl, rfl⟩)
          | (refine wpListIn_load_row rfl 41 (.tmp 5) rfl gO rfl _ _ (0, 0) _ (LS.bk_ 1 rfl) Try.underlying41 rfl op_sz ?_)
          | (refine wpListIn_store_row rfl 41 (.tmp 6) (.tmp 33) rfl gR _ rfl rfl _ _ (LS.bk_ 0 rfl) op_sz rfl (opv_one _ _) ?_))
        exact ⟨((KeepsOthers.setCell _ _ _).from _).trans (keeps_row (LS.bk_ 0 rfl) _ _), rfl, pre, x, rfl, hp, by rw [hqq.out, hH.out]; simp; omega, by rw [hqq.out, hAS.out]; exact LS.row 0 rfl _⟩
  case done =>
    rintro D ys W hD ⟨hpre, hlen⟩ ⟨L1, hp⟩ hK
    clear TF
    have hn1 : nxt a b s.at_.toNat s.word = none := by
      rw [hat]
      refine nxt_none fun j hj => ?_
      have hj2 : j < ys.length := by omega
      have := hp ys[j] (List.getElem_mem hj2)
      have e : (ys[j]).val = j := by
        have e2 : (ys.map (·.val))[j]? = some j := by rw [show ys.map (·.val) = _ from hpre]; simp [hj2]
        simpa [hj2] using e2
      rw [e] at this
      simpa using this
    have e1 : onH sh a b s h = elsH sh s h := by unfold onH; rw [hn1]
    have e2 : onS sh a b s = elsS sh s := by unfold onS; rw [hn1]
    clear hn1
    have hlt := (Array.getElem?_eq_some_iff.1 hK).1
    gi_wp2_with (first
      | (refine wpListIn_load_row rfl 27 (.tmp 3) rfl gH rfl _ _ (0, 0) _ (L1.bk_ 2 rfl) Try.underlying27 rfl cf_sz ?_)
      | (refine wpListIn_load_row rfl 41 (.tmp 5) rfl gO rfl _ _ (0, 0) _ (L1.bk_ 1 rfl) Try.underlying41 rfl op_sz ?_))
    refine ⟨trivial, ?_⟩
    refine CallsIn.mono (TE _).out ?_
    rintro e w2 ⟨rfl, K'⟩
    have hK2 := (K'.block D hlt).trans hK
    replace L1 := L1.over K'
    gi_wp2_with (refine wpListIn_store_row rfl 41 (.tmp 6) (.tmp 36) rfl gR _ rfl rfl _ _ (L1.bk_ 0 rfl) op_sz rfl (opv_one _ _) ?_)
    have L2 := L1.row 0 rfl (opv (elsH sh s h) (elsS sh s))
    have hK3 := (keeps_row (L1.bk_ 0 rfl) (opv (elsH sh s h) (elsS sh s)) 0).same D _ (Nat.zero_le _) hK2 rfl
    refine ⟨by simp, .inl ⟨_, _, rfl, run_takeDeferred hK3, ?_⟩⟩
    have L3 := loc_put L2 (o' := .deferred none) (Nat.le_trans hz hD) hK3 rfl
    exact ⟨.agg (opv (elsH sh s h) (elsS sh s)), results_cell_row (fn := Try.f30) Try.results30 _ _ gR _ _ (0, 0) _ rfl (L3.bk_ 0 rfl) Try.underlying41 rfl op_sz, by rw [e1, e2], L3.K⟩
  case stop =>
    rintro D cc pre W hD hpre ⟨rfl, pre', x, rfl, h3, h4, L1⟩ hK
    clear TF TE
    have hx : x.val = pre'.length ∧ isPre pre' := by
      have e2 := show (pre' ++ [x]).map (·.val) = List.range (pre' ++ [x]).length from hpre
      rw [List.map_append, List.length_append, List.length_singleton, List.range_succ] at e2
      have := List.append_inj' e2 rfl
      exact ⟨by simpa using this.2, this.1⟩
    have hn1 : nxt a b s.at_.toNat s.word = some (a / 64 + x.val) := by
      rw [hat]
      refine nxt_some x.isLt (fun j hj => ?_) (by simpa using h4)
      have hj2 : j < pre'.length := by omega
      have := h3 pre'[j] (List.getElem_mem hj2)
      have e : (pre'[j]).val = j := by
        have e2 : (pre'.map (·.val))[j]? = some j := by rw [show pre'.map (·.val) = _ from hx.2]; simp [hj2]
        simpa [hj2] using e2
      rw [e] at this
      simpa using this
    have e1 : onH sh a b s h = h := by unfold onH; rw [hn1]
    have e2 : onS sh a b s = atS s (a / 64 + x.val) := by unfold onS; rw [hn1]
    rw [e1, e2]
    gi_wp2
    refine ⟨by simp, .inl ⟨_, _, rfl, run_takeDeferred hK, ?_⟩⟩
    have L3 := loc_put L1 (o' := .deferred none) (Nat.le_trans hz hD) hK rfl
    exact ⟨.agg (opv h (atS s (a / 64 + x.val))), results_cell_row (fn := Try.f30) Try.results30 _ _ gR _ _ (0, 0) _ rfl (L3.bk_ 0 rfl) Try.underlying41 rfl op_sz, rfl, L3.K⟩
end
end Go.Proofs.Ytlaejiephpmniaa
