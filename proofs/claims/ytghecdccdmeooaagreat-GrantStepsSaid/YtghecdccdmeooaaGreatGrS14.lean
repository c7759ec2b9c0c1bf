/-
  What the functions that these laws call answer, and what follows of it; conditions: those that each theorem names. In this file: SeekIn, SeekOn, SeekFree, SeekStep, WordNew, WordCells, SweepMath, SweepOwn, SweepEnds, SweepFirst, SweepAgain.
-/
import Derived.Test.YtghecdccdmeooaaGreatGrS13
import Derived.OrdersIn
/-
  What a round of a loop over an iterator wants: blocks known whole, read and written, within a fence; what is known of a call's memory abides. No condition on the program.
-/
namespace Go.Proofs.YtghecdccdmeooaaGreat
set_option maxRecDepth 100000
open Go.RowKit Go.Shelf
set_option linter.unusedVariables false
section
variable {F : Fence} {nF : Nat} {P : Program} {ops : Array Oper} {rest : List Oper} {o : Oper} {a : Act} {w : World} {Q : Exit → Act → World → Prop}
theorem wpListIn_load_row (hgd : o.guard = none) (ty : TypeId) (x : Operand) (ho : o.op = .load ty x)
    (g : Nat) (hx : a.eval x = .pointer (some ⟨g, 0, none⟩)) (t : TypeId) (cs : Array Value) (fr : Nat × Nat) (d : TypeDesc) (hg : w.heap[g]? = some (.cells cs t fr))
    (hu : P.underlying ty = some d) (hd : (match d with | .struct _ | .array _ _ => true | _ => false) = true) (hi : (P.info? ty).map (·.size) = some cs.size)
    (h : wpListIn F nF P ops Q rest (a.put o.dst (.agg cs)) w) : wpListIn F nF P ops Q (o :: rest) a w := by
  refine wpListIn_plain hgd fun K hK => ?_
  unfold Oper.wpIn
  refine ⟨by simp [Oper.about, ho], ?_⟩
  rw [Oper.semAt_plain F _ _ (by rw [ho]; intro c hc'; cases hc')]
  simp only [execOp, ho, hx, Instr.loadAt, Instr.sureAddr, Sem.run_bind, Sem.run_pure, Result.andThen_ok, run_loadVar_row w g t ty cs fr d hg hu hd hi]
  exact hK _ _ h
theorem wpListIn_store_row (hgd : o.guard = none) (ty : TypeId) (x y : Operand) (ho : o.op = .store ty x y)
    (g : Nat) (cells : Array Value) (hx : a.eval x = .pointer (some ⟨g, 0, none⟩)) (hy : a.eval y = .agg cells)
    (t : TypeId) (old : Array Value) (hg : w.heap[g]? = some (.cells old t (0, 0))) (hi : (P.info? ty).map (·.size) = some cells.size)
    (hold : old.size = cells.size) (h1 : cells.all (·.oneCell') = true)
    (h : wpListIn F nF P ops Q rest (a.put o.dst undef) (w.setRow g cells)) : wpListIn F nF P ops Q (o :: rest) a w := by
  refine wpListIn_plain hgd fun K hK => ?_
  unfold Oper.wpIn
  refine ⟨by simp [Oper.about, ho], ?_⟩
  rw [Oper.semAt_plain F _ _ (by rw [ho]; intro c hc'; cases hc')]
  simp only [execOp, ho, hx, hy, Instr.storeAt, Instr.sureAddr, Sem.run_bind, Sem.run_pure, Result.andThen_ok, run_storeVar_row w g t ty old cells hg hi hold h1]
  exact hK _ _ h
end
/-- No operation of the region defers a call. -/
def noDefer (ops : Array Oper) : Bool := ops.all fun o => match o.op with | .defer _ => false | _ => true
theorem noDefer_get {ops : Array Oper} (h : noDefer ops = true) {i : Nat} {o : Oper} (ho : ops[i]? = some o) : ∀ c, o.op ≠ .defer c := fun c e => by
  obtain ⟨hi, rfl⟩ := Array.getElem?_eq_some_iff.1 ho
  have := Array.all_eq_true.1 h i hi
  rw [e] at this
  cases this
section
variable {l nF : Nat} {P : Program} {ops : Array Oper} {Q : Exit → Act → World → Prop}
theorem rowsIn_of {P : Program} {row : String} {args : Array Value} {w : World} {R : Value → World → Prop} (h : Rows P row args w R) : RowsIn (Fence.wide.inRound l) nF P row args w R :=
  fun cc cs _ => let ⟨v, w', r, s⟩ := h cc cs; ⟨v, w', r, stepsIn_wide.2 s⟩
/-- In a round of a loop over an iterator an operation is what it is elsewhere, if it defers no call. -/
theorem wpOpIn_of_wpOp (hnd : noDefer ops = true) (hQ : ¬ LetsOut Q) {i : Nat} {K : Act → World → Prop} {a : Act} {w : World} (h : wpOp P ops Q i K a w) : wpOpIn (Fence.wide.inRound l) nF P ops Q i K a w := by
  unfold wpOp at h
  unfold wpOpIn
  cases ho : ops[i]? with
  | none => rw [ho] at h; exact h
  | some o =>
    rw [ho] at h
    dsimp only at h ⊢
    split at h
    · rename_i hw
      rw [if_pos hw]
      rcases h with h | ⟨_, h⟩
      · refine ⟨fun _ _ => trivial, ?_⟩
        rw [Oper.semAt_plain _ _ _ (noDefer_get hnd ho)]
        unfold Oper.wp at h
        generalize (execOp a.eval o).run P w = r at *
        have hd : (Fence.wide.inRound l).depth.isSome = true → 1 ≤ nF := fun e => by cases e
        cases r with
        | ok x w' =>
          cases x with
          | value v => exact h
          | skip => exact h
          | defer d => exact h
          | enter f args =>
            refine ⟨hd, CallsIn.mono (CallsIn.inRound l (callsIn_wide.2 h)) fun e w2 he => ?_⟩
            cases e <;> exact he
          | row row args => exact ⟨hd, rowsIn_of h⟩
          | _ => exact h.elim
        | halt x w' =>
          cases x with
          | panic v => exact h
          | _ => exact h.elim
      · exact (hQ h).elim
    · rename_i hw
      rw [if_neg hw]
      exact ⟨fun _ _ => trivial, h⟩
theorem wpAnyIn_of_wpAny {md : Region.Mode} (hnd : noDefer ops = true) (hQ : ¬ LetsOut Q) : ∀ (fuel : Nat) (listed : Array Bool) (a : Act) (w : World), wpAny P md ops Q fuel listed a w → wpAnyIn (Fence.wide.inRound l) nF P md ops Q fuel listed a w
  | 0, _, _, _, h => h
  | fuel + 1, listed, a, w, h => ⟨h.1, fun i hi => wpOpIn_of_wpOp hnd hQ (wpOp_mono (fun a' w' h' => wpAnyIn_of_wpAny hnd hQ fuel _ a' w' h') (h.2 i hi))⟩
/-- A region that draws its order, in a round: by what holds in every world on the way. -/
theorem wpIn_round_held_drew {S : World → Prop} {id : Nat} {a : Act} {w : World} (hm : P.follows .mixedOrders = true) (hnd : noDefer ops = true) (hQ : ¬ LetsOut Q) (hS : S w.drew)
    (h : S w.drew → wpAnyH P .any ops Q S ops.size (Array.replicate ops.size false) a w.drew) : (Code.region id ops true).wpIn (Fence.wide.inRound l) nF P Q a w :=
  wpIn_region_any hm (wpAnyIn_of_wpAny hnd hQ _ _ _ _ (wpAny_of_held _ _ _ _ (h hS)))
end
theorem bk_own {X Y : World} {row : Option Nat} {g : Nat} {t : TypeId} {l : Array Value} (h : Bk X g t l) (hg : X.grownBy Y row) (hr : ∀ r, row = some r → ∃ o : Obj, X.heap[r]? = some o ∧ o.isCells = false) : Bk Y g t l :=
  (hg.block g h.lt (fun e => by obtain ⟨o, ho, hc⟩ := hr g e.symm; rw [show X.heap[g]? = _ from h] at ho; cases ho; cases hc)).trans h
theorem loc_own {w0 : World} {B : Nat} (hB : w0.heap.size ≤ B) {X Y : World} {row : Option Nat} {bs : List Bl} (L : Loc w0 X bs []) (hg : X.grownBy Y row) (hr : ∀ r, row = some r → B ≤ r ∧ ∃ o : Obj, X.heap[r]? = some o ∧ o.isCells = false) : Loc w0 Y bs [] :=
  ⟨L.K.grown hg L.K.size (fun r e => by have := (hr r e).1; omega), fun i b e => ⟨bk_own (L.bk i b e).1 hg (fun r e' => (hr r e').2), (L.bk i b e).2⟩, L.ne, fun f h => by cases h⟩
theorem keeps_row {w : World} {g : Nat} {t : TypeId} {l : Array Value} (h : Bk w g t l) (l' : Array Value) (B : Nat) : KeepsFrom B w (w.setRow g l') :=
  ⟨by simp, fun k o _ hk ho => by
    have hne : k ≠ g := fun e => by subst e; rw [show w.heap[k]? = _ from h] at hk; cases hk; cases ho
    exact (setRow_other w g k l' hne).trans hk⟩
theorem loc_put {w0 W : World} {bs : List Bl} (L : Loc w0 W bs []) {D : Nat} {o o' : Obj} (hD : w0.heap.size ≤ D) (hK : W.heap[D]? = some o) (ho : o.isCells = false) : Loc w0 (W.putObj D o') bs [] :=
  loc_own hD L (grownBy_putObj' W D o') (fun r e => by cases e; exact ⟨Nat.le_refl _, o, hK, ho⟩)
end Go.Proofs.YtghecdccdmeooaaGreat

/-
  What seek.onward answers: the operation at the next top whose bit in its word isn't set, or in the next shard. Conditions: numbers that fit, tops that are handed out by the iterator.
-/
namespace Go.Proofs.YtghecdccdmeooaaGreat
set_option maxRecDepth 100000
open Go.RowKit Go.Shelf
set_option linter.unusedVariables false
attribute [local go_sem] Oper.semAt_some
theorem nxt_some {a b at_ x k : Nat} (hk : k < cnt_ a b) (h0 : ∀ j, j < k → hit at_ x (a / 64 + j) = false) (h1 : hit at_ x (a / 64 + k) = true) : nxt a b at_ x = some (a / 64 + k) := by
  obtain ⟨m, hm⟩ : ∃ m, cnt_ a b = k + 1 + m := ⟨cnt_ a b - (k + 1), by omega⟩
  have aux : ∀ j, j ≤ k → (ups (a / 64) j).find? (hit at_ x) = none := fun j => by
    induction j with
    | zero => intro _; rfl
    | succ j ih => intro h; rw [ups_succ, List.find?_append, ih (by omega)]; simp [h0 j (by omega)]
  have aux2 : ∀ m, (ups (a / 64) (k + 1 + m)).find? (hit at_ x) = some (a / 64 + k) := fun m => by
    induction m with
    | zero => rw [Nat.add_zero, ups_succ, List.find?_append, aux k (Nat.le_refl _)]; simp [h1]
    | succ m ih => rw [← Nat.add_assoc, ups_succ, List.find?_append, ih]; rfl
  unfold nxt; rw [hm]; exact aux2 m
theorem nxt_none {a b at_ x : Nat} (h0 : ∀ j, j < cnt_ a b → hit at_ x (a / 64 + j) = false) : nxt a b at_ x = none := by
  unfold nxt
  rw [List.find?_eq_none]
  intro t ht
  have := ups_mem.1 ht
  have e := h0 (t - a / 64) (by omega)
  rw [show a / 64 + (t - a / 64) = t by omega] at e
  simp [e]
theorem fb_set {X q : Nat} (h : X.testBit q = true) : fb (fl_ X q) (q + 1) = false :=
  (fi_not (fun k hk => by
    rw [fl_bit]
    rcases Nat.lt_or_ge k q with h1 | h1
    · simp [h1]
    · rw [show k = q by omega, h]; rfl)).2
theorem fb_not {X q : Nat} (h : X.testBit q = false) : fb (fl_ X q) (q + 1) = true :=
  (fi_of (i := q) (by omega) (by rw [fl_bit, h]; simp) (fun k hk => by rw [fl_bit]; simp [hk])).2
/-- The three boxes that the iterator reads. -/
structure Clo (w : World) (b1 b2 b3 n a b : Nat) : Prop where
  c1 : w.cell? ⟨b1, 0, none⟩ = some (.int .i64 (a : Nat))
  c2 : w.cell? ⟨b2, 0, none⟩ = some (.int .i64 (b : Nat))
  c3 : w.cell? ⟨b3, 0, none⟩ = some (.int .i64 (n : Nat))
  l1 : b1 < w.heap.size
  l2 : b2 < w.heap.size
  l3 : b3 < w.heap.size
theorem Clo.below {w w' : World} {b1 b2 b3 n a b : Nat} (h : Clo w b1 b2 b3 n a b) (K : Below w.heap.size w w') : Clo w' b1 b2 b3 n a b :=
  ⟨(K.cell (p := ⟨b1, 0, none⟩) h.l1).trans h.c1, (K.cell (p := ⟨b2, 0, none⟩) h.l2).trans h.c2, (K.cell (p := ⟨b3, 0, none⟩) h.l3).trans h.c3, Nat.lt_of_lt_of_le h.l1 K.size, Nat.lt_of_lt_of_le h.l2 K.size, Nat.lt_of_lt_of_le h.l3 K.size⟩
abbrev tpsV (b1 b2 b3 : Nat) : Value := .func (.func 131) #[] #[.pointer (some ⟨b1, 0, none⟩), .pointer (some ⟨b2, 0, none⟩), .pointer (some ⟨b3, 0, none⟩)]
section
variable {w : World} {lo M a b b1 b2 b3 tt ba : Nat} {p sh wo qu tr : Int} {A : Option Addr} {n c : Nat} {h : Hd} {s : Sc} {l : Ls}
set_option maxHeartbeats 4000000 in
theorem sonward_any (hM : M ≤ 65536) (hab : a ≤ b) (hb : b ≤ lv M) (hat : s.at_ = (tt : Int)) (htt : tt ≤ 64) (hw : s.word < 18446744073709551616) (hs0 : 0 ≤ s.sought) (hs1 : s.sought ≤ 65536) (hC : Clo w b1 b2 b3 M a b) :
    Calls Tryz.prog 96 #[.agg #[.int .u32 (ba : Int), .int .i64 p, .slice A n c, .int .i64 sh, .int .i64 wo, .int .i64 qu, .int .i64 tr], tpsV b1 b2 b3, .agg (opv h s)] w (RetOp (onH sh a b s h) (onS sh a b s) w) := by
  refine (callsIn_wide (n := 5)).1 ?_
  refine callsIn_of_wp_marks Tryz.func96 rfl trivial ?_ rfl
  simp only [Tryz.ntmps96, List.size_toArray, List.length_cons, List.length_nil, Nat.reduceAdd, Nat.reduceSub, Array.replicate_succ, Array.replicate_zero, List.push_toArray, List.append_toArray, List.nil_append, List.cons_append]
  have TF := fun X q q1 (hX : X < 18446744073709551616) hq hq1 w => Lib.hid (callsIn_wide (n := 5 - 1 - 1 - 1).2 (hfind_any X q q1 hX hq hq1 w))
  have TE := fun w => Lib.hid (callsIn_wide (n := 5 - 1).2 (else_any (w := w) (a := ba) (p := p) (sh := sh) (wo := wo) (qu := qu) (tr := tr) (A := A) (n := n) (c := c) (h := h) (s := s) hs0 hs1))
  gi_wp2
  have L := Loc.start w
  replace L := (((L).alloc #[.int .u32 (ba : Int), .int .i64 p, .slice A n c, .int .i64 sh, .int .i64 wo, .int .i64 qu, .int .i64 tr] 27).alloc (opv h s) 40).alloc #[.int .i64 0, .int .u32 0, .slice none 0 0, .int .i64 0, .int .u32 0, .bool false, .slice none 0 0, .slice none 0 0, .int .i64 0, .int .i64 0, .int .i64 0, .int .i64 0, .int .i64 0, .int .u64 0, .bool false, .slice none 0 0, .int .i64 0, .int .i64 0, .int .i64 0, .int .i64 0] 40
  try simp only [World.size_alloc] at L
  replace L := L.is 0 (opv hd0 sc0) rfl
  try dsimp only [nput] at L
  generalize (((w).alloc (.cells #[.int .u32 (ba : Int), .int .i64 p, .slice A n c, .int .i64 sh, .int .i64 wo, .int .i64 qu, .int .i64 tr] 27)).alloc (.cells (opv h s) 40)).alloc (.cells #[.int .i64 0, .int .u32 0, .slice none 0 0, .int .i64 0, .int .u32 0, .bool false, .slice none 0 0, .slice none 0 0, .int .i64 0, .int .i64 0, .int .i64 0, .int .i64 0, .int .i64 0, .int .u64 0, .bool false, .slice none 0 0, .int .i64 0, .int .i64 0, .int .i64 0, .int .i64 0] 40) = W0 at L ⊢
  generalize w.heap.size + 1 + 1 = gR at L ⊢
  generalize w.heap.size + 1 = gO at L ⊢
  generalize w.heap.size = gH at L ⊢
  have hz := L.K.size
  have hC0 := hC.below L.K
  refine wpIn_rangeFunc_ownH (F := Fence.wide) rfl (by decide) (gf := 131) (lb := #[.pointer (some ⟨b1, 0, none⟩), .pointer (some ⟨b2, 0, none⟩), .pointer (some ⟨b3, 0, none⟩)]) rfl trivial (enters_of Tryz.func131 (by kernel_rfl) rfl)
    (tops_stops hM hab hb (5 - 1) (by decide) b1 b2 b3 w.heap.size W0 hz hC0.c1 hC0.c2 hC0.c3 hC.l1 hC.l2 hC.l3) belowK_t (belowK_b hz) (Below.refl _ _) (fun _ => rfl)
    (fun pre W => Loc w W [(gR, 40, opv hd0 sc0), (gO, 40, opv h s), (gH, 27, #[.int .u32 (ba : Int), .int .i64 p, .slice A n c, .int .i64 sh, .int .i64 wo, .int .i64 qu, .int .i64 tr])] [] ∧ ∀ x ∈ pre, hit tt s.word (a / 64 + x.val) = false)
    (fun cc pre W => cc = .ret ∧ ∃ pre' x, pre = pre' ++ [x] ∧ (∀ y ∈ pre', hit tt s.word (a / 64 + y.val) = false) ∧ hit tt s.word (a / 64 + x.val) = true ∧ Loc w W [(gR, 40, opv h (atS s (a / 64 + x.val))), (gO, 40, opv h (atS s (a / 64 + x.val))), (gH, 27, #[.int .u32 (ba : Int), .int .i64 p, .slice A n c, .int .i64 sh, .int .i64 wo, .int .i64 qu, .int .i64 tr])] [])
    (fun pre X Y row hs hg hr => ⟨loc_own hz hs.1 hg hr, hs.2⟩)
    (fun cc pre X Y row hs hg hr => by
      obtain ⟨h1, pre', x, h2, h3, h4, h5⟩ := hs
      exact ⟨h1, pre', x, h2, h3, h4, loc_own hz h5 hg hr⟩)
    ⟨L, by simp⟩
    (fun x a' W => ∃ gT, Bk W gT 134 (tpv M a b (a / 64 + x.val)) ∧ a' = { tmps := #[.agg #[.int .u32 (ba : Int), .int .i64 p, .slice A n c, .int .i64 sh, .int .i64 wo, .int .i64 qu, .int .i64 tr], tpsV b1 b2 b3, .agg (opv h s), .pointer (some ⟨gH, 0, none⟩), undef, .pointer (some ⟨gO, 0, none⟩), .pointer (some ⟨gR, 0, none⟩), .pointer (some ⟨gT, 0, none⟩), undef, undef, tpsV b1 b2 b3, .agg (tpv M a b (a / 64 + x.val)), undef, undef, undef, undef, undef, undef, undef, undef, undef, undef, undef, undef, undef, undef, undef, undef, undef, undef, undef, undef, undef, undef, undef, undef, undef], defers := [] })
    (fun x a' _ X Y row hs hg hr => by
      obtain ⟨gT, h1, h2⟩ := hs
      exact ⟨gT, bk_own h1 hg (fun r e => (hr r e).2), h2⟩)
    ?assign ?body ?done ?stop
  case assign =>
    rintro l pre x W K ⟨L1, hp⟩ hK
    dsimp only [tpe, tpv]
    gi_wp2
    exact hK _ _ ((KeepsOthers.alloc _ _).from _) ((Below.refl _ W).alloc L1.K.size _) ⟨L1.other _, hp⟩ ⟨W.heap.size, Bk.new _ _ _, rfl⟩
  case body =>
    rintro l pre x a' W hl hr ⟨L1, hp⟩ ⟨gT, hT, rfl⟩ hlt
    have ht := bfr_le a b (a / 64 + x.val) (by have := x.isLt; omega)
    have hq64 : a / 64 + x.val < 64 := by have := cnt_top.1 (show a / 64 ≤ a / 64 + x.val ∧ a / 64 + x.val < a / 64 + cnt_ a b by have := x.isLt; omega); have := lv_le hM; omega
    have T_0 : W.cell? ⟨gT, 0, none⟩ = some (.int .i64 ((a / 64 + x.val : Nat))) := hT.at_ 0 rfl
    have T_z := hT.lt
    have O_16 : W.cell? ⟨gO, 16, none⟩ = some (.int .i64 (tt : Nat)) := by rw [← hat]; exact L1.at_ 1 16 rfl rfl
    have O_13 : W.cell? ⟨gO, 13, none⟩ = some (.int .u64 (s.word : Nat)) := L1.at_ 1 13 rfl rfl
    have O_f16 := L1.fz 1 16 rfl
    have O_z := L1.lt 1 rfl
    have hH : hit tt s.word (a / 64 + x.val) = (decide (tt ≤ a / 64 + x.val) && !s.word.testBit (a / 64 + x.val)) := rfl
    have hA1 : atS s (a / 64 + x.val) = ⟨s.kind, s.addr, s.err, s.aad, s.used, s.phase, s.shard, s.sought, s.leaf, s.bit, s.word, s.full, ((a / 64 + x.val + 1 : Nat) : Int), s.tries, s.item, s.stamp⟩ := rfl
    obtain ⟨q1, hq1⟩ : ∃ q1, q1 = a / 64 + x.val + 1 := ⟨_, rfl⟩
    rw [← hq1] at hA1
    have TF1 := TF s.word (a / 64 + x.val) q1 hw (by omega) (by omega)
    have hq2 : ((a / 64 + x.val : Nat) : Int) + 1 = (q1 : Nat) := by omega
    have hfb : fb (fl_ s.word (a / 64 + x.val)) q1 = !s.word.testBit (a / 64 + x.val) := by
      rw [hq1]
      cases hb : s.word.testBit (a / 64 + x.val) with
      | true => exact fb_set hb
      | false => exact fb_not hb
    rw [hfb] at TF1
    clear TF TE hq1 hfb
    have LS := L1.set 1 16 rfl (.int .i64 (q1 : Nat))
    have hS : (opv h s).setIfInBounds 16 (.int .i64 (q1 : Nat)) = opv h (atS s (a / 64 + x.val)) := by rw [hA1]; rfl
    rw [hS] at LS
    dsimp only [nput] at LS
    replace hA1 := Lib.hid hA1
    generalize hAS : atS s (a / 64 + x.val) = s2 at LS
    replace hAS := Lib.hid hAS
    replace hH := Lib.hid hH
    have hpx : ∀ bo, hit tt s.word (a / 64 + x.val) = bo → bo = false → ∀ y ∈ pre ++ [x], hit tt s.word (a / 64 + y.val) = false := fun bo e e' y hy => by
      rcases List.mem_append.1 hy with h1 | h1
      · exact hp y h1
      · rw [List.mem_singleton.1 h1, e, e']
    replace hpx := Lib.hid hpx
    generalize hqq : a / 64 + x.val = q at *
    replace hqq := Lib.hid hqq
    generalize fi (fl_ s.word q) q1 = f at TF1
    replace hS := Lib.hid hS
    by_cases hlt2 : q < tt
    · gi_wp2
      exact ⟨KeepsFrom.refl _ _, Below.refl _ _, L1, hpx.out _ hH.out (by simp; omega)⟩
    · cases hbit : s.word.testBit q with
      | true =>
        rw [hbit] at TF1 hH
        replace hbit := Lib.hid hbit
        gi_wp2_with (refine ⟨trivial, ?_⟩; (with_reducible refine CallsIn.mono (CallsIn.inRound l (TF1 _).out) ?_); rintro e w' ⟨rfl, rfl⟩)
        exact ⟨KeepsFrom.refl _ _, Below.refl _ _, L1, hpx.out _ hH.out (by simp)⟩
      | false =>
        rw [hbit] at TF1 hH
        replace hbit := Lib.hid hbit
        gi_wp2_with (first
          | (refine ⟨trivial, ?_⟩; (with_reducible refine CallsIn.mono (CallsIn.inRound l (TF1 _).out) ?_); rintro e w' ⟨rfl, rfl⟩)
          | (refine wpListIn_load_row rfl 40 (.tmp 5) rfl gO rfl _ _ (0, 0) _ (LS.bk_ 1 rfl) Tryz.underlying40 rfl op_sz ?_)
          | (refine wpListIn_store_row rfl 40 (.tmp 6) (.tmp 33) rfl gR _ rfl rfl _ _ (LS.bk_ 0 rfl) op_sz rfl (opv_one _ _) ?_))
        exact ⟨((KeepsOthers.setCell _ _ _).from _).trans (keeps_row (LS.bk_ 0 rfl) _ _), rfl, pre, x, rfl, hp, by rw [hqq.out, hH.out]; simp; omega, by rw [hqq.out, hAS.out]; exact LS.row 0 rfl _⟩
  case done =>
    rintro D ys W hD ⟨hpre, hlen⟩ ⟨L1, hp⟩ hK
    clear TF
    have hn1 : nxt a b s.at_.toNat s.word = none := by
      rw [hat]
      refine nxt_none fun j hj => ?_
      have hj2 : j < ys.length := by omega
      have := hp ys[j] (List.getElem_mem hj2)
      have e : (ys[j]).val = j := by
        have e2 : (ys.map (·.val))[j]? = some j := by rw [show ys.map (·.val) = _ from hpre]; simp [hj2]
        simpa [hj2] using e2
      rw [e] at this
      simpa using this
    have e1 : onH sh a b s h = elsH sh s h := by unfold onH; rw [hn1]
    have e2 : onS sh a b s = elsS sh s := by unfold onS; rw [hn1]
    clear hn1
    have hlt := (Array.getElem?_eq_some_iff.1 hK).1
    gi_wp2_with (first
      | (refine wpListIn_load_row rfl 27 (.tmp 3) rfl gH rfl _ _ (0, 0) _ (L1.bk_ 2 rfl) Tryz.underlying27 rfl cf_sz ?_)
      | (refine wpListIn_load_row rfl 40 (.tmp 5) rfl gO rfl _ _ (0, 0) _ (L1.bk_ 1 rfl) Tryz.underlying40 rfl op_sz ?_))
    refine ⟨trivial, ?_⟩
    refine CallsIn.mono (TE _).out ?_
    rintro e w2 ⟨rfl, K'⟩
    have hK2 := (K'.block D hlt).trans hK
    replace L1 := L1.over K'
    gi_wp2_with (refine wpListIn_store_row rfl 40 (.tmp 6) (.tmp 36) rfl gR _ rfl rfl _ _ (L1.bk_ 0 rfl) op_sz rfl (opv_one _ _) ?_)
    have L2 := L1.row 0 rfl (opv (elsH sh s h) (elsS sh s))
    have hK3 := (keeps_row (L1.bk_ 0 rfl) (opv (elsH sh s h) (elsS sh s)) 0).same D _ (Nat.zero_le _) hK2 rfl
    refine ⟨by simp, .inl ⟨_, _, rfl, run_takeDeferred hK3, ?_⟩⟩
    have L3 := loc_put L2 (o' := .deferred none) (Nat.le_trans hz hD) hK3 rfl
    exact ⟨.agg (opv (elsH sh s h) (elsS sh s)), results_cell_row (fn := Tryz.f96) Tryz.results96 _ _ gR _ _ (0, 0) _ rfl (L3.bk_ 0 rfl) Tryz.underlying40 rfl op_sz, by rw [e1, e2], L3.K⟩
  case stop =>
    rintro D cc pre W hD hpre ⟨rfl, pre', x, rfl, h3, h4, L1⟩ hK
    clear TF TE
    have hx : x.val = pre'.length ∧ isPre pre' := by
      have e2 := show (pre' ++ [x]).map (·.val) = List.range (pre' ++ [x]).length from hpre
      rw [List.map_append, List.length_append, List.length_singleton, List.range_succ] at e2
      have := List.append_inj' e2 rfl
      exact ⟨by simpa using this.2, this.1⟩
    have hn1 : nxt a b s.at_.toNat s.word = some (a / 64 + x.val) := by
      rw [hat]
      refine nxt_some x.isLt (fun j hj => ?_) (by simpa using h4)
      have hj2 : j < pre'.length := by omega
      have := h3 pre'[j] (List.getElem_mem hj2)
      have e : (pre'[j]).val = j := by
        have e2 : (pre'.map (·.val))[j]? = some j := by rw [show pre'.map (·.val) = _ from hx.2]; simp [hj2]
        simpa [hj2] using e2
      rw [e] at this
      simpa using this
    have e1 : onH sh a b s h = h := by unfold onH; rw [hn1]
    have e2 : onS sh a b s = atS s (a / 64 + x.val) := by unfold onS; rw [hn1]
    rw [e1, e2]
    gi_wp2
    refine ⟨by simp, .inl ⟨_, _, rfl, run_takeDeferred hK, ?_⟩⟩
    have L3 := loc_put L1 (o' := .deferred none) (Nat.le_trans hz hD) hK rfl
    exact ⟨.agg (opv h (atS s (a / 64 + x.val))), results_cell_row (fn := Tryz.f96) Tryz.results96 _ _ gR _ _ (0, 0) _ rfl (L3.bk_ 0 rfl) Tryz.underlying40 rfl op_sz, rfl, L3.K⟩
end
end Go.Proofs.YtghecdccdmeooaaGreat

/-
  What seek.free answers: the first of the shard's leaves in a top whose bit there isn't set, and whether there is one. Conditions: cells that there are, tops that are handed out by the iterator.
-/
namespace Go.Proofs.YtghecdccdmeooaaGreat
set_option maxRecDepth 100000
open Go.RowKit Go.Shelf
set_option linter.unusedVariables false
attribute [local go_sem] Oper.semAt_some
theorem inT_yes {a b t : Nat} (h : a / 64 ≤ t ∧ t < a / 64 + cnt_ a b) : inT a b t = true := by unfold inT; exact decide_eq_true h
theorem inT_no {a b t : Nat} (h : ¬ (a / 64 ≤ t ∧ t < a / 64 + cnt_ a b)) : inT a b t = false := by unfold inT; exact decide_eq_false h
section
variable {w : World} {M a b b1 b2 b3 m d t : Nat} {B : Option Addr} {ys : List Nat}
set_option maxHeartbeats 4000000 in
theorem free_any (hM : M ≤ 65536) (hab : a ≤ b) (hb : b ≤ lv M) (hU : US w B m d ys) (hm : lv M + tv M < m) (ht : t ≤ 64) (hC : Clo w b1 b2 b3 M a b) :
    Calls Tryz.prog 97 #[.slice B m d, tpsV b1 b2 b3, .int .i64 (t : Int)] w fun e w' => ∃ i bo, e = .returned (.tuple #[.int .i64 i, .bool bo]) ∧ (bo = true → ∃ j : Nat, i = (j : Int) ∧ fre a b (gt ys (lv M + t)) t = some j) ∧ (bo = false → fre a b (gt ys (lv M + t)) t = none) ∧ Below w.heap.size w w' := by
  have TF := fun q f1 f2 (h1 : f1 ≤ 64) (h2 : f2 ≤ 64) w => Lib.hid (hfind_any (gt ys q) f1 f2 (gt_lt hU.fit q) h1 h2 w)
  have TL := fun q (hq : q < m) w (U : US w B m d ys) => Lib.hid (load_nat U q hq)
  refine (callsIn_wide (n := 5)).1 ?_
  refine callsIn_of_wp_marks Tryz.func97 rfl trivial ?_ rfl
  simp only [Tryz.ntmps97, List.size_toArray, List.length_cons, List.length_nil, Nat.reduceAdd, Nat.reduceSub, Array.replicate_succ, Array.replicate_zero, List.push_toArray, List.append_toArray, List.nil_append, List.cons_append]
  gi_wp2
  have L := Loc.start w
  replace L := ((((L).alloc #[.slice B m d] 38).alloc #[.int .i64 (t : Int)] 3).alloc #[.int .i64 0] 3).alloc #[.bool false] 4
  try simp only [World.size_alloc] at L
  generalize ((((w).alloc (.cells #[.slice B m d] 38)).alloc (.cells #[.int .i64 (t : Int)] 3)).alloc (.cells #[.int .i64 0] 3)).alloc (.cells #[.bool false] 4) = W0 at L ⊢
  generalize w.heap.size + 1 + 1 + 1 = gB at L ⊢
  generalize w.heap.size + 1 + 1 = gI at L ⊢
  generalize w.heap.size + 1 = gN at L ⊢
  generalize w.heap.size = gL at L ⊢
  have hz := L.K.size
  have hC0 := hC.below L.K
  refine wpIn_rangeFunc_ownH (F := Fence.wide) rfl (by decide) (gf := 131) (lb := #[.pointer (some ⟨b1, 0, none⟩), .pointer (some ⟨b2, 0, none⟩), .pointer (some ⟨b3, 0, none⟩)]) rfl trivial (enters_of Tryz.func131 (by kernel_rfl) rfl)
    (tops_stops hM hab hb (5 - 1) (by decide) b1 b2 b3 w.heap.size W0 hz hC0.c1 hC0.c2 hC0.c3 hC.l1 hC.l2 hC.l3) belowK_t (belowK_b hz) (Below.refl _ _) (fun _ => rfl)
    (fun pre W => Loc w W [(gB, 4, #[.bool false]), (gI, 3, #[.int .i64 0]), (gN, 3, #[.int .i64 (t : Int)]), (gL, 38, #[.slice B m d])] [] ∧ ∀ x ∈ pre, a / 64 + x.val ≠ t)
    (fun cc pre W => cc = .ret ∧ ∃ (i : Int) (bo : Bool), Loc w W [(gB, 4, #[.bool bo]), (gI, 3, #[.int .i64 i]), (gN, 3, #[.int .i64 (t : Int)]), (gL, 38, #[.slice B m d])] [] ∧ (bo = true → ∃ j : Nat, i = (j : Int) ∧ fre a b (gt ys (lv M + t)) t = some j) ∧ (bo = false → fre a b (gt ys (lv M + t)) t = none))
    (fun pre X Y row hs hg hr => ⟨loc_own hz hs.1 hg hr, hs.2⟩)
    (fun cc pre X Y row hs hg hr => by
      obtain ⟨h1, i, bo, h2, h3⟩ := hs
      exact ⟨h1, i, bo, loc_own hz h2 hg hr, h3⟩)
    ⟨L, by simp⟩
    (fun x a' W => ∃ gT, Bk W gT 134 (tpv M a b (a / 64 + x.val)) ∧ a' = { tmps := #[.slice B m d, tpsV b1 b2 b3, .int .i64 (t : Int), .pointer (some ⟨gL, 0, none⟩), undef, .pointer (some ⟨gN, 0, none⟩), .pointer (some ⟨gI, 0, none⟩), .pointer (some ⟨gB, 0, none⟩), .pointer (some ⟨gT, 0, none⟩), undef, undef, tpsV b1 b2 b3, .agg (tpv M a b (a / 64 + x.val)), undef, undef, undef, undef, undef, undef, undef, undef, undef, undef, undef, undef, undef, undef, undef, undef, undef, undef, undef, undef, undef, undef, undef, undef], defers := [] })
    (fun x a' _ X Y row hs hg hr => by
      obtain ⟨gT, h1, h2⟩ := hs
      exact ⟨gT, bk_own h1 hg (fun r e => (hr r e).2), h2⟩)
    ?assign ?body ?done ?stop
  case assign =>
    rintro l pre x W K ⟨L1, hp⟩ hK
    dsimp only [tpe, tpv]
    gi_wp2
    exact hK _ _ ((KeepsOthers.alloc _ _).from _) ((Below.refl _ W).alloc L1.K.size _) ⟨L1.other _, hp⟩ ⟨W.heap.size, Bk.new _ _ _, rfl⟩
  case body =>
    rintro l pre x a' W hl hr ⟨L1, hp⟩ ⟨gT, hT, rfl⟩ hlt
    have hin : a / 64 ≤ a / 64 + x.val ∧ a / 64 + x.val < a / 64 + cnt_ a b := by have := x.isLt; omega
    obtain ⟨hf64, ht64⟩ := bfr_le a b (a / 64 + x.val) hin
    have hct := cnt_top.1 hin
    have hl2 := lv_le hM
    have hq64 : a / 64 + x.val < tv M := by unfold tv tq; omega
    have hlf : lft a (a / 64 + x.val) = 64 * (a / 64 + x.val) + bfr a (a / 64 + x.val) := by unfold lft bfr; omega
    have N_0 : W.cell? ⟨gN, 0, none⟩ = some (.int .i64 (t : Nat)) := L1.at_ 2 0 rfl rfl
    have N_z := L1.lt 2 rfl
    have hfre : inT a b (a / 64 + x.val) = true := inT_yes hin
    have hpx : a / 64 + x.val ≠ t → ∀ y ∈ pre ++ [x], a / 64 + y.val ≠ t := fun e y hy => by
      rcases List.mem_append.1 hy with h1 | h1
      · exact hp y h1
      · rw [List.mem_singleton.1 h1]; exact e
    replace hpx := Lib.hid hpx
    clear hct hlt hin
    dsimp only [tpv] at hT
    replace TF := TF (lv M + (a / 64 + x.val)) (bfr a (a / 64 + x.val)) (bto b (a / 64 + x.val)) (by omega) (by omega)
    replace TL := TL (lv M + (a / 64 + x.val)) (by omega)
    have hfr2 : fre a b (gt ys (lv M + (a / 64 + x.val))) (a / 64 + x.val) = (if fb (fl_ (gt ys (lv M + (a / 64 + x.val))) (bfr a (a / 64 + x.val))) (bto b (a / 64 + x.val)) = true then some (64 * (a / 64 + x.val) + fi (fl_ (gt ys (lv M + (a / 64 + x.val))) (bfr a (a / 64 + x.val))) (bto b (a / 64 + x.val))) else none) := by unfold fre; rw [if_pos hfre]
    have hfi := fi_le (fl_ (gt ys (lv M + (a / 64 + x.val))) (bfr a (a / 64 + x.val))) (bto b (a / 64 + x.val))
    clear hfre
    generalize a / 64 + x.val = q at *
    generalize hX : gt ys (lv M + q) = X at TF TL hfr2 hfi
    generalize hcl : lv M + q = cl at *
    generalize fi (fl_ X (bfr a q)) (bto b q) = f at *
    generalize fb (fl_ X (bfr a q)) (bto b q) = bo at *
    generalize lft a q = lf at *
    generalize bfr a q = fr at *
    generalize bto b q = to at *
    have T_0 : W.cell? ⟨gT, 0, none⟩ = some (.int .i64 (q : Nat)) := hT.at_ 0 rfl
    have T_z := hT.lt
    by_cases hqt : q = t
    · subst hqt
      have heq : ((q : Int) == (q : Int)) = true := by simp
      obtain ⟨s1, hs1⟩ : ∃ s1 : Nat, (lf : Int) + (f : Int) = s1 := ⟨lf + f, by omega⟩
      obtain ⟨r1, hr1⟩ : ∃ r1 : Nat, (s1 : Int) - (fr : Int) = r1 := ⟨s1 - fr, by omega⟩
      have hr2 : r1 = 64 * q + f := by omega
      have hbd : s1 ≤ 100000 ∧ q ≤ 64 ∧ lf ≤ 10000 ∧ f ≤ 64 := by omega
      rw [← hr2] at hfr2
      replace hr2 := Lib.hid hr2
      replace hlf := Lib.hid hlf
      replace hcl := Lib.hid hcl
      replace hX := Lib.hid hX
      gi_wp2
      refine wpIn_round_held_drew (S := fun w' => Loc w w' [(gB, 4, #[.bool false]), (gI, 3, #[.int .i64 0]), (gN, 3, #[.int .i64 (q : Int)]), (gL, 38, #[.slice B m d])] [] ∧ Bk w' gT 134 #[.int .i64 (q : Nat), .int .i64 (cl : Nat), .int .i64 (lf : Nat), .int .i64 (fr : Nat), .int .i64 (to : Nat)]) (by kernel_rfl) (by kernel_rfl) (fun ⟨_, _, h⟩ => h) ⟨L1.drew, hT.below (Below.refl _ _).drew⟩ (fun hHeld => ?_)
      have hKO : KeepsOthers W W.drew := KeepsOthers.drew W
      have hBD : Below w.heap.size W W.drew := (Below.refl _ _).drew
      generalize W.drew = V at hHeld hKO hBD ⊢
      refine wpAnyH_take (i := 0) (oi := ⟨some 18, _, _, _, _, _⟩) (v := .slice B m d) rfl (by kernel_rfl) (by kernel_rfl) (by kernel_rfl) (fun _ _ _ h => h) (Or.inl ⟨by rfl, ?_⟩) hHeld ?_
      · intro ww hS
        try dsimp only at hS
        have L_0 := hS.1.at_ 3 0 rfl (v := .slice B m d) rfl
        have L_z := hS.1.lt 3 rfl
        go_simp
        try with_reducible rfl
        try omega
      try simp only [Act.put, sA, sZ, sS]
      refine wpAnyH_take (i := 1) (oi := ⟨some 19, _, _, _, _, _⟩) (v := .pointer (some ⟨gT, 1, none⟩)) rfl (by kernel_rfl) (by kernel_rfl) (by kernel_rfl) (fun _ _ _ h => h) (Or.inl ⟨by rfl, ?_⟩) hHeld ?_
      · (intro ww hS; go_simp; try with_reducible rfl; try omega)
      try simp only [Act.put, sA, sZ, sS]
      refine wpAnyH_take (i := 2) (oi := ⟨some 20, _, _, _, _, _⟩) (v := .int .i64 (cl : Nat)) rfl (by kernel_rfl) (by kernel_rfl) (by kernel_rfl) (fun _ _ _ h => h) (Or.inl ⟨by rfl, ?_⟩) hHeld ?_
      · intro ww hS
        try dsimp only at hS
        have T_1 := hS.2.at_ (v := .int .i64 (cl : Nat)) 1 rfl
        have T_z := hS.2.lt
        go_simp
        try with_reducible rfl
        try omega
      try simp only [Act.put, sA, sZ, sS]
      refine wpAnyH_take (i := 4) (oi := ⟨some 22, _, _, _, _, _⟩) (v := .pointer (some ⟨gT, 3, none⟩)) rfl (by kernel_rfl) (by kernel_rfl) (by kernel_rfl) (fun _ _ _ h => h) (Or.inl ⟨by rfl, ?_⟩) hHeld ?_
      · (intro ww hS; go_simp; try with_reducible rfl; try omega)
      try simp only [Act.put, sA, sZ, sS]
      refine wpAnyH_take (i := 5) (oi := ⟨some 23, _, _, _, _, _⟩) (v := .int .i64 (fr : Nat)) rfl (by kernel_rfl) (by kernel_rfl) (by kernel_rfl) (fun _ _ _ h => h) (Or.inl ⟨by rfl, ?_⟩) hHeld ?_
      · intro ww hS
        try dsimp only at hS
        have T_3 := hS.2.at_ (v := .int .i64 (fr : Nat)) 3 rfl
        have T_z := hS.2.lt
        go_simp
        try with_reducible rfl
        try omega
      try simp only [Act.put, sA, sZ, sS]
      refine wpAnyH_take (i := 6) (oi := ⟨some 24, _, _, _, _, _⟩) (v := .pointer (some ⟨gT, 4, none⟩)) rfl (by kernel_rfl) (by kernel_rfl) (by kernel_rfl) (fun _ _ _ h => h) (Or.inl ⟨by rfl, ?_⟩) hHeld ?_
      · (intro ww hS; go_simp; try with_reducible rfl; try omega)
      try simp only [Act.put, sA, sZ, sS]
      refine wpAnyH_take (i := 7) (oi := ⟨some 25, _, _, _, _, _⟩) (v := .int .i64 (to : Nat)) rfl (by kernel_rfl) (by kernel_rfl) (by kernel_rfl) (fun _ _ _ h => h) (Or.inl ⟨by rfl, ?_⟩) hHeld ?_
      · intro ww hS
        try dsimp only at hS
        have T_4 := hS.2.at_ (v := .int .i64 (to : Nat)) 4 rfl
        have T_z := hS.2.lt
        go_simp
        try with_reducible rfl
        try omega
      try simp only [Act.put, sA, sZ, sS]
      refine wpAnyH_ready (rs := [3]) (by kernel_rfl) (by simp) ?_
      refine AllReadyH.cons (o := ⟨some 21, _, _, _, _, _⟩) rfl (fun K0 hK => ?_) AllReadyH.nil
      go_simp
      refine ((TL _ (hU.below hHeld.1.K)).out).mono ?_
      rintro e _ ⟨rfl, rfl⟩
      refine hK.out _ _ hHeld (fun hHeld' => ?_)
      clear hHeld hK K0
      have hHeld := hHeld'
      clear hHeld'
      try simp only [Act.put, sA, sZ, sS]
      refine wpAnyH_ready (rs := [8]) (by kernel_rfl) (by simp) ?_
      refine AllReadyH.cons (o := ⟨some 26, _, _, _, _, _⟩) rfl (fun K0 hK => ?_) AllReadyH.nil
      go_simp
      refine ((TF _).out).mono ?_
      rintro e _ ⟨rfl, rfl⟩
      refine hK.out _ _ hHeld (fun hHeld' => ?_)
      clear hHeld hK K0
      have hHeld := hHeld'
      clear hHeld'
      try simp only [Act.put, sA, sZ, sS]
      refine wpAnyH_take (i := 9) (oi := ⟨some 17, _, _, _, _, _⟩) (v := ?_) rfl (by kernel_rfl) (by kernel_rfl) (by kernel_rfl) (fun _ _ _ h => h) (Or.inl ⟨by rfl, ?_⟩) hHeld ?_
      rotate_left
      · (intro ww hS; go_simp; try with_reducible rfl; try omega)
      try simp only [Act.put, sA, sZ, sS]
      refine wpAnyH_take (i := 10) (oi := ⟨some 27, _, _, _, _, _⟩) (v := ?_) rfl (by kernel_rfl) (by kernel_rfl) (by kernel_rfl) (fun _ _ _ h => h) (Or.inl ⟨by rfl, ?_⟩) hHeld ?_
      rotate_left
      · (intro ww hS; go_simp; try with_reducible rfl; try omega)
      try simp only [Act.put, sA, sZ, sS]
      refine wpAnyH_take (i := 11) (oi := ⟨some 28, _, _, _, _, _⟩) (v := ?_) rfl (by kernel_rfl) (by kernel_rfl) (by kernel_rfl) (fun _ _ _ h => h) (Or.inl ⟨by rfl, ?_⟩) hHeld ?_
      rotate_left
      · (intro ww hS; go_simp; try with_reducible rfl; try omega)
      try simp only [Act.put, sA, sZ, sS]
      refine wpAnyH_take (i := 12) (oi := ⟨some 9, _, _, _, _, _⟩) (v := ?_) rfl (by kernel_rfl) (by kernel_rfl) (by kernel_rfl) (fun _ _ _ h => h) (Or.inl ⟨by rfl, ?_⟩) hHeld ?_
      rotate_left
      · (intro ww hS; go_simp; try with_reducible rfl; try omega)
      try simp only [Act.put, sA, sZ, sS]
      refine wpAnyH_take (i := 13) (oi := ⟨some 10, _, _, _, _, _⟩) (v := ?_) rfl (by kernel_rfl) (by kernel_rfl) (by kernel_rfl) (fun _ _ _ h => h) (Or.inl ⟨by rfl, ?_⟩) hHeld ?_
      rotate_left
      · (intro ww hS; go_simp; try with_reducible rfl; try omega)
      try simp only [Act.put, sA, sZ, sS]
      refine wpAnyH_done (by kernel_rfl) ?_ _
      have L2 := hHeld.1
      have T_2 := hHeld.2.at_ (v := .int .i64 (lf : Nat)) 2 rfl
      have T_3 := hHeld.2.at_ (v := .int .i64 (fr : Nat)) 3 rfl
      have T_zz := hHeld.2.lt
      have I_0 := L2.at_ 1 0 rfl (v := .int .i64 0) rfl
      have I_f := L2.fz 1 0 rfl
      have I_z := L2.lt 1 rfl
      have B_0 := L2.at_ 0 0 rfl (v := .bool false) rfl
      have B_f := L2.fz 0 0 rfl
      have B_z := L2.lt 0 rfl
      have ne_B_I := L2.ne_ 0 1 rfl rfl (by decide)
      replace hfr2 := Lib.hid hfr2
      gi_wp2
      have L3 := (L2.set 1 0 rfl (.int .i64 (r1 : Nat))).set 0 0 rfl (.bool bo)
      try dsimp only [nput] at L3
      refine ⟨(hKO.trans ((KeepsOthers.setCell _ _ _).trans (KeepsOthers.setCell _ _ _))).from _, rfl, r1, bo, L3, fun e => ⟨r1, rfl, ?_⟩, fun e => ?_⟩
      · rw [hcl.out, hX.out, hfr2.out, if_pos e]
      · rw [hcl.out, hX.out, hfr2.out, e]; rfl
    · have hne : ((q : Int) == (t : Int)) = false := by simp; omega
      gi_wp2
      exact ⟨KeepsFrom.refl _ _, Below.refl _ _, L1, hpx.out hqt⟩
  case done =>
    rintro D zs W hD ⟨hpre, hlen⟩ ⟨L1, hp⟩ hK
    clear TF TL
    have hno : fre a b (gt ys (lv M + t)) t = none := by
      unfold fre
      rw [inT_no]
      · rfl
      · intro hin
        have hj : t - a / 64 < zs.length := by omega
        have h1 := hp zs[t - a / 64] (List.getElem_mem hj)
        have e : (zs[t - a / 64]).val = t - a / 64 := by
          have e2 : (zs.map (·.val))[t - a / 64]? = some (t - a / 64) := by rw [show zs.map (·.val) = _ from hpre]; simp [hj]
          simpa [hj] using e2
        omega
    replace hno := Lib.hid hno
    have I_0 := L1.at_ 1 0 rfl (v := .int .i64 0) rfl
    have I_f := L1.fz 1 0 rfl
    have I_z := L1.lt 1 rfl
    have B_0 := L1.at_ 0 0 rfl (v := .bool false) rfl
    have B_f := L1.fz 0 0 rfl
    have B_z := L1.lt 0 rfl
    have ne_B_I := L1.ne_ 0 1 rfl rfl (by decide)
    gi_wp2
    have L2 := (L1.set 1 0 rfl (.int .i64 0)).set 0 0 rfl (.bool false)
    try dsimp only [nput] at L2
    have hK2 := ((KeepsOthers.setCell W ⟨gI, 0, none⟩ (.int .i64 0)).trans (KeepsOthers.setCell _ ⟨gB, 0, none⟩ (.bool false))).same D _ hK rfl
    refine ⟨by simp, .inl ⟨_, _, rfl, run_takeDeferred hK2, ?_⟩⟩
    have L3 := loc_put L2 (o' := .deferred none) (Nat.le_trans hz hD) hK2 rfl
    have c1 := L3.at_ 1 0 rfl (v := .int .i64 0) rfl
    have c2 := L3.at_ 0 0 rfl (v := .bool false) rfl
    refine ⟨.tuple #[.int .i64 0, .bool false], ?_, 0, false, rfl, (fun e => by cases e), (fun _ => hno.out), L3.K⟩
    simp [results, Tryz.f97, go_sem, c1, c2]
  case stop =>
    rintro D cc pre W hD hpre ⟨rfl, i, bo, L1, h3⟩ hK
    gi_wp2
    refine ⟨by simp, .inl ⟨_, _, rfl, run_takeDeferred hK, ?_⟩⟩
    have L3 := loc_put L1 (o' := .deferred none) (Nat.le_trans hz hD) hK rfl
    have c1 := L3.at_ 1 0 rfl (v := .int .i64 i) rfl
    have c2 := L3.at_ 0 0 rfl (v := .bool bo) rfl
    refine ⟨.tuple #[.int .i64 i, .bool bo], ?_, i, bo, rfl, h3.1, h3.2, L3.K⟩
    simp [results, Tryz.f97, go_sem, c1, c2]
end
end Go.Proofs.YtghecdccdmeooaaGreat

/-
  What seek.Step answers of an operation that seeks. Conditions: a block that may be, as many cells as there are, a shard that there is.
-/
namespace Go.Proofs.YtghecdccdmeooaaGreat
set_option maxRecDepth 100000
open Go.RowKit
set_option linter.unusedVariables false
def tF (b1 b2 b3 n a b : Nat) : Fct := ⟨fun w => Clo w b1 b2 b3 n a b, fun g => g = b1 ∨ g = b2 ∨ g = b3⟩
theorem cell_same {w w' : World} {b o : Nat} {v : Value} (h : w'.heap[b]? = w.heap[b]?) (e : w.cell? ⟨b, o, none⟩ = some v) : w'.cell? ⟨b, o, none⟩ = some v := by
  unfold World.cell? at e ⊢
  rw [h]; exact e
theorem tF_ok (b1 b2 b3 n a b : Nat) : (tF b1 b2 b3 n a b).Ok :=
  ⟨fun w w' h hs hk => ⟨cell_same (hk b1 h.l1 (.inl rfl)) h.c1, cell_same (hk b2 h.l2 (.inr (.inl rfl))) h.c2, cell_same (hk b3 h.l3 (.inr (.inr rfl))) h.c3, Nat.lt_of_lt_of_le h.l1 hs, Nat.lt_of_lt_of_le h.l2 hs, Nat.lt_of_lt_of_le h.l3 hs⟩,
   fun w b h hf => hf.elim (fun e => e ▸ h.l1) (fun hf => hf.elim (fun e => e ▸ h.l2) (fun e => e ▸ h.l3))⟩
def RetTops (n a b : Nat) (w : World) (e : Ending) (w' : World) : Prop := ∃ b1 b2 b3, e = .returned (tpsV b1 b2 b3) ∧ Clo w' b1 b2 b3 n a b ∧ (w.heap.size ≤ b1 ∧ w.heap.size ≤ b2 ∧ w.heap.size ≤ b3) ∧ Below w.heap.size w w'
theorem Loc.tops {w0 w : World} {bs : List Bl} {fs : List Fct} {b1 b2 b3 n a b lo : Nat} (L : Loc w0 w bs fs) (hl : ∀ i x, nth bs i = some x → x.1 < lo) (hC : Clo w b1 b2 b3 n a b) (hb : lo ≤ b1 ∧ lo ≤ b2 ∧ lo ≤ b3) : Loc w0 w bs (tF b1 b2 b3 n a b :: fs) :=
  L.add _ hC (tF_ok _ _ _ _ _ _) fun i x e hf => by
    have := hl i x e
    rcases hf with h | h | h <;> omega
set_option maxHeartbeats 1000000 in
theorem topsf_any (n a b : Nat) (w : World) : Calls Tryz.prog 114 #[.int .i64 (n : Int), .int .i64 (a : Int), .int .i64 (b : Int)] w (RetTops n a b w) := by
  go_enter Tryz.func114, Tryz.ntmps114
  go_wp2
  have L := Loc.start w
  replace L := (((L).alloc #[.int .i64 (n : Int)] 3).alloc #[.int .i64 (a : Int)] 3).alloc #[.int .i64 (b : Int)] 3
  try simp only [World.size_alloc] at L
  go_ret
  exact ⟨w.heap.size + 1, w.heap.size + 1 + 1, w.heap.size, rfl, ⟨L.at_ 1 0 rfl rfl, L.at_ 0 0 rfl rfl, L.at_ 2 0 rfl rfl, L.lt 1 rfl, L.lt 0 rfl, L.lt 2 rfl⟩, ⟨by omega, by omega, by omega⟩, L.K⟩
section
variable {w : World} {lo a M m d ns hd k tt : Nat} {p wo qu tr : Int} {A B : Option Addr} {n c : Nat} {ys : List Nat} {h : Hd} {s : Sc} {l : Ls}
set_option maxHeartbeats 2000000 in
theorem sought_any (ha : a < 4294967296) (hM : Much a p M) (h1 : 1 ≤ ns) (h2 : ns ≤ 64) (hsh : s.shard = (hd : Int)) (hhd : hd < ns) (hso : s.sought = (k : Int)) (hk : k < ns) :
    Calls Tryz.prog 93 #[.agg #[.int .u32 (a : Int), .int .i64 p, .slice A n c, .int .i64 (ns : Int), .int .i64 wo, .int .i64 qu, .int .i64 tr], .agg (opv h s)] w (RetTops M (ct (lv M) ns ((hd + k) % ns)) (ct (lv M) ns ((hd + k) % ns + 1)) w) := by
  have TM := fun w => Lib.hid (many_yes (w := w) ha hM)
  have TFr := fun w => Lib.hid (from_any ns hd k h1 h2 hhd (by omega) w)
  have TR := fun w => Lib.hid (range_any M ns ((hd + k) % ns) hM.most h1 h2 (Nat.mod_lt _ h1) w)
  generalize (ct (lv M) ns ((hd + k) % ns)) = qa at TR ⊢
  generalize (ct (lv M) ns ((hd + k) % ns + 1)) = qb at TR ⊢
  generalize (hd + k) % ns = q at TR TFr
  clear hM ha hhd hk h1 h2
  rcases s with ⟨kind, addr, err, aad, used, phase, shard, sought, leaf, bit, word, full, at_, tries, item, stamp⟩
  rcases h with ⟨A0, n0, c0, A1, n1, c1, A2, n2, c2, A3, n3, c3⟩
  dsimp only at *
  subst hsh hso
  go_enter Tryz.func93, Tryz.ntmps93
  go_upto_region 1 with (fail)
  have L := Loc.start w
  replace L := ((L).alloc #[.int .u32 (a : Int), .int .i64 p, .slice A n c, .int .i64 (ns : Int), .int .i64 wo, .int .i64 qu, .int .i64 tr] 27).alloc (opv ⟨A0, n0, c0, A1, n1, c1, A2, n2, c2, A3, n3, c3⟩ ⟨kind, addr, err, aad, used, phase, (hd : Int), (k : Int), leaf, bit, word, full, at_, tries, item, stamp⟩) 40
  try simp only [World.size_alloc] at L
  try dsimp only [nput] at L
  generalize ((w).alloc (.cells #[.int .u32 (a : Int), .int .i64 p, .slice A n c, .int .i64 (ns : Int), .int .i64 wo, .int .i64 qu, .int .i64 tr] 27)).alloc (.cells (opv ⟨A0, n0, c0, A1, n1, c1, A2, n2, c2, A3, n3, c3⟩ ⟨kind, addr, err, aad, used, phase, (hd : Int), (k : Int), leaf, bit, word, full, at_, tries, item, stamp⟩) 40) = w1 at L ⊢
  generalize w.heap.size + 1 = gO at L ⊢
  generalize w.heap.size = gH at L ⊢
  have H_0 := L.at_ 1 0 rfl (v := .int .u32 (a : Int)) rfl
  have H_1 := L.at_ 1 1 rfl (v := .int .i64 p) rfl
  have H_z := L.lt 1 rfl
  go_wp2_with fail
  refine ((TM _).out).mono ?_
  rintro e w2 ⟨rfl, K'⟩
  clear H_0 H_1 H_z
  replace L := L.over K'
  go_upto_region 2 with (fail)
  replace L := L.drew
  refine wp_region_held_drew (S := fun w' => Loc w w' [(gO, 40, opv ⟨A0, n0, c0, A1, n1, c1, A2, n2, c2, A3, n3, c3⟩ ⟨kind, addr, err, aad, used, phase, (hd : Int), (k : Int), leaf, bit, word, full, at_, tries, item, stamp⟩), (gH, 27, #[.int .u32 (a : Int), .int .i64 p, .slice A n c, .int .i64 (ns : Int), .int .i64 wo, .int .i64 qu, .int .i64 tr])] []) (by kernel_rfl) L (fun hHeld => ?_)
  generalize w2.drew = v3 at hHeld L ⊢
  refine wpAnyH_take (i := 0) (oi := ⟨some 12, _, _, _, _, _⟩) (v := .int .i64 (M : Int)) rfl (by kernel_rfl) (by kernel_rfl) (by kernel_rfl) (fun _ _ _ h => h) (Or.inl ⟨by rfl, ?_⟩) hHeld ?_
  · (intro ww hS; go_simp; try with_reducible rfl; try omega)
  try simp only [Act.put, sA, sZ, sS]
  refine wpAnyH_take (i := 1) (oi := ⟨some 13, _, _, _, _, _⟩) (v := .pointer (some ⟨gH, 3, none⟩)) rfl (by kernel_rfl) (by kernel_rfl) (by kernel_rfl) (fun _ _ _ h => h) (Or.inl ⟨by rfl, ?_⟩) hHeld ?_
  · (intro ww hS; go_simp; try with_reducible rfl; try omega)
  try simp only [Act.put, sA, sZ, sS]
  refine wpAnyH_take (i := 2) (oi := ⟨some 14, _, _, _, _, _⟩) (v := .int .i64 (ns : Int)) rfl (by kernel_rfl) (by kernel_rfl) (by kernel_rfl) (fun _ _ _ h => h) (Or.inl ⟨by rfl, ?_⟩) hHeld ?_
  · intro ww hS
    try dsimp only at hS
    have H_3 := (hS).at_ 1 3 rfl (v := .int .i64 (ns : Int)) rfl
    have H_z := (hS).lt 1 rfl
    go_simp
    try with_reducible rfl
    try omega
  try simp only [Act.put, sA, sZ, sS]
  refine wpAnyH_take (i := 3) (oi := ⟨some 15, _, _, _, _, _⟩) (v := .pointer (some ⟨gH, 3, none⟩)) rfl (by kernel_rfl) (by kernel_rfl) (by kernel_rfl) (fun _ _ _ h => h) (Or.inl ⟨by rfl, ?_⟩) hHeld ?_
  · (intro ww hS; go_simp; try with_reducible rfl; try omega)
  try simp only [Act.put, sA, sZ, sS]
  refine wpAnyH_take (i := 4) (oi := ⟨some 16, _, _, _, _, _⟩) (v := .int .i64 (ns : Int)) rfl (by kernel_rfl) (by kernel_rfl) (by kernel_rfl) (fun _ _ _ h => h) (Or.inl ⟨by rfl, ?_⟩) hHeld ?_
  · intro ww hS
    try dsimp only at hS
    have H_3 := (hS).at_ 1 3 rfl (v := .int .i64 (ns : Int)) rfl
    have H_z := (hS).lt 1 rfl
    go_simp
    try with_reducible rfl
    try omega
  try simp only [Act.put, sA, sZ, sS]
  refine wpAnyH_take (i := 5) (oi := ⟨some 17, _, _, _, _, _⟩) (v := .pointer (some ⟨gO, 9, none⟩)) rfl (by kernel_rfl) (by kernel_rfl) (by kernel_rfl) (fun _ _ _ h => h) (Or.inl ⟨by rfl, ?_⟩) hHeld ?_
  · (intro ww hS; go_simp; try with_reducible rfl; try omega)
  try simp only [Act.put, sA, sZ, sS]
  refine wpAnyH_take (i := 6) (oi := ⟨some 18, _, _, _, _, _⟩) (v := .int .i64 (hd : Int)) rfl (by kernel_rfl) (by kernel_rfl) (by kernel_rfl) (fun _ _ _ h => h) (Or.inl ⟨by rfl, ?_⟩) hHeld ?_
  · intro ww hS
    try dsimp only at hS
    have O_9 := (hS).at_ 0 9 rfl (v := .int .i64 (hd : Int)) rfl
    have O_z := (hS).lt 0 rfl
    go_simp
    try with_reducible rfl
    try omega
  try simp only [Act.put, sA, sZ, sS]
  refine wpAnyH_take (i := 7) (oi := ⟨some 19, _, _, _, _, _⟩) (v := .pointer (some ⟨gO, 10, none⟩)) rfl (by kernel_rfl) (by kernel_rfl) (by kernel_rfl) (fun _ _ _ h => h) (Or.inl ⟨by rfl, ?_⟩) hHeld ?_
  · (intro ww hS; go_simp; try with_reducible rfl; try omega)
  try simp only [Act.put, sA, sZ, sS]
  refine wpAnyH_take (i := 8) (oi := ⟨some 20, _, _, _, _, _⟩) (v := .int .i64 (k : Int)) rfl (by kernel_rfl) (by kernel_rfl) (by kernel_rfl) (fun _ _ _ h => h) (Or.inl ⟨by rfl, ?_⟩) hHeld ?_
  · intro ww hS
    try dsimp only at hS
    have O_10 := (hS).at_ 0 10 rfl (v := .int .i64 (k : Int)) rfl
    have O_z := (hS).lt 0 rfl
    go_simp
    try with_reducible rfl
    try omega
  try simp only [Act.put, sA, sZ, sS]
  refine wpAnyH_ready (rs := [9]) (by kernel_rfl) (by simp) ?_
  refine AllReadyH.cons (o := ⟨some 21, _, _, _, _, _⟩) rfl (fun K0 hK => ?_) AllReadyH.nil
  go_simp
  refine ((TFr _).out).mono ?_
  rintro e w' ⟨rfl, rfl⟩
  refine hK.out _ _ L (fun hHeld' => ?_)
  clear hHeld hK K0
  have hHeld := hHeld'
  clear hHeld'
  try simp only [Act.put, sA, sZ, sS]
  refine wpAnyH_ready (rs := [10]) (by kernel_rfl) (by simp) ?_
  refine AllReadyH.cons (o := ⟨some 22, _, _, _, _, _⟩) rfl (fun K0 hK => ?_) AllReadyH.nil
  go_simp
  refine ((TR _).out).mono ?_
  rintro e w4 ⟨rfl, K'⟩
  replace L := L.over K'
  refine hK.out _ _ L (fun hHeld' => ?_)
  clear hHeld hK K0
  have hHeld := hHeld'
  clear hHeld'
  clear K'
  try simp only [Act.put, sA, sZ, sS]
  refine wpAnyH_take (i := 11) (oi := ⟨some 11, _, _, _, _, _⟩) (v := ?_) rfl (by kernel_rfl) (by kernel_rfl) (by kernel_rfl) (fun _ _ _ h => h) (Or.inl ⟨by rfl, ?_⟩) hHeld ?_
  rotate_left
  · (intro ww hS; go_simp; try with_reducible rfl; try omega)
  try simp only [Act.put, sA, sZ, sS]
  refine wpAnyH_take (i := 12) (oi := ⟨some 23, _, _, _, _, _⟩) (v := .int .i64 (qa : Nat)) rfl (by kernel_rfl) (by kernel_rfl) (by kernel_rfl) (fun _ _ _ h => h) (Or.inl ⟨by rfl, ?_⟩) hHeld ?_
  · (intro ww hS; go_simp; try with_reducible rfl; try omega)
  try simp only [Act.put, sA, sZ, sS]
  refine wpAnyH_take (i := 13) (oi := ⟨some 24, _, _, _, _, _⟩) (v := .int .i64 (qb : Nat)) rfl (by kernel_rfl) (by kernel_rfl) (by kernel_rfl) (fun _ _ _ h => h) (Or.inl ⟨by rfl, ?_⟩) hHeld ?_
  · (intro ww hS; go_simp; try with_reducible rfl; try omega)
  try simp only [Act.put, sA, sZ, sS]
  refine wpAnyH_take (i := 14) (oi := ⟨some 6, _, _, _, _, _⟩) (v := .int .i64 (qa : Nat)) rfl (by kernel_rfl) (by kernel_rfl) (by kernel_rfl) (fun _ _ _ h => h) (Or.inl ⟨by rfl, ?_⟩) hHeld ?_
  · (intro ww hS; go_simp; try with_reducible rfl; try omega)
  try simp only [Act.put, sA, sZ, sS]
  refine wpAnyH_take (i := 15) (oi := ⟨some 7, _, _, _, _, _⟩) (v := .int .i64 (qb : Nat)) rfl (by kernel_rfl) (by kernel_rfl) (by kernel_rfl) (fun _ _ _ h => h) (Or.inl ⟨by rfl, ?_⟩) hHeld ?_
  · (intro ww hS; go_simp; try with_reducible rfl; try omega)
  try simp only [Act.put, sA, sZ, sS]
  refine wpAnyH_done (by kernel_rfl) ?_ _
  clear hHeld
  go_wp2_with fail
  have KS := L.K.size
  refine (topsf_any M qa qb _).mono ?_
  rintro e w5 ⟨b1, b2, b3, rfl, hC, hb, K'⟩
  have Lb := L.lts
  replace L := L.over K'
  replace L := L.tops Lb hC hb
  clear Lb
  try dsimp only [lF, List.cons_append, List.nil_append] at L
  clear hC
  go_wp2
  go_ret
  exact ⟨_, _, _, rfl, L.get 0 rfl, ⟨Nat.le_trans KS hb.1, Nat.le_trans KS hb.2.1, Nat.le_trans KS hb.2.2⟩, L.K⟩
set_option maxHeartbeats 2000000 in
theorem sroot_any (ha : a < 4294967296) (hM : Much a p M) :
    Calls Tryz.prog 95 #[.agg #[.int .u32 (a : Int), .int .i64 p, .slice A n c, .int .i64 (ns : Int), .int .i64 wo, .int .i64 qu, .int .i64 tr]] w (fun e w' => e = .returned (.int .i64 ((lv M + tv M : Nat))) ∧ Below w.heap.size w w') := by
  have TM := fun w => Lib.hid (many_yes (w := w) ha hM)
  have TR := fun w => Lib.hid (rootof_any M 0 hM.most (by omega) w)
  generalize lv M + tv M = rc at TR ⊢
  clear hM ha
  go_enter Tryz.func95, Tryz.ntmps95
  go_upto_region 1 with (fail)
  have L := Loc.start w
  replace L := (L).alloc #[.int .u32 (a : Int), .int .i64 p, .slice A n c, .int .i64 (ns : Int), .int .i64 wo, .int .i64 qu, .int .i64 tr] 27
  try simp only [World.size_alloc] at L
  try dsimp only [nput] at L
  generalize (w).alloc (.cells #[.int .u32 (a : Int), .int .i64 p, .slice A n c, .int .i64 (ns : Int), .int .i64 wo, .int .i64 qu, .int .i64 tr] 27) = w1 at L ⊢
  generalize w.heap.size = gH at L ⊢
  have H_0 := L.at_ 0 0 rfl (v := .int .u32 (a : Int)) rfl
  have H_1 := L.at_ 0 1 rfl (v := .int .i64 p) rfl
  have H_z := L.lt 0 rfl
  go_wp2_with fail
  refine ((TM _).out).mono ?_
  rintro e w2 ⟨rfl, K'⟩
  clear H_0 H_1 H_z
  replace L := L.over K'
  go_wp2_with fail
  refine ((TR _).out).mono ?_
  rintro e w' ⟨rfl, rfl⟩
  go_wp2
  go_ret
  exact ⟨rfl, L.K⟩
/-- What a step of seeking answers: the operation, with lists of its own. -/
def RetSk (s : Sc) (l : Ls) (w : World) (e : Ending) (w' : World) : Prop := ∃ h', e = .returned (.agg (opv h' s)) ∧ Lists w.heap.size w' h' l ∧ Below w.heap.size w w'
theorem free_yes {a b b1 b2 b3 M m d t j : Nat} {B : Option Addr} {ys : List Nat} {w : World} (hM : M ≤ 65536) (hab : a ≤ b) (hb : b ≤ lv M) (hU : US w B m d ys) (hm : lv M + tv M < m) (ht : t ≤ 64) (hC : Clo w b1 b2 b3 M a b) (hf : fre a b (gt ys (lv M + t)) t = some j) :
    Calls Tryz.prog 97 #[.slice B m d, tpsV b1 b2 b3, .int .i64 (t : Int)] w fun e w' => e = .returned (.tuple #[.int .i64 (j : Nat), .bool true]) ∧ Below w.heap.size w w' := by
  refine (free_any hM hab hb hU hm ht hC).mono ?_
  rintro e w' ⟨i, bo, rfl, h1, h2, K⟩
  cases bo with
  | true =>
    obtain ⟨j', rfl, e⟩ := h1 rfl
    rw [hf] at e; cases e
    exact ⟨rfl, K⟩
  | false => have := h2 rfl; rw [hf] at this; cases this
theorem free_no {a b b1 b2 b3 M m d t : Nat} {B : Option Addr} {ys : List Nat} {w : World} (hM : M ≤ 65536) (hab : a ≤ b) (hb : b ≤ lv M) (hU : US w B m d ys) (hm : lv M + tv M < m) (ht : t ≤ 64) (hC : Clo w b1 b2 b3 M a b) (hf : fre a b (gt ys (lv M + t)) t = none) :
    Calls Tryz.prog 97 #[.slice B m d, tpsV b1 b2 b3, .int .i64 (t : Int)] w fun e w' => ∃ i, e = .returned (.tuple #[.int .i64 i, .bool false]) ∧ Below w.heap.size w w' := by
  refine (free_any hM hab hb hU hm ht hC).mono ?_
  rintro e w' ⟨i, bo, rfl, h1, h2, K⟩
  cases bo with
  | true => obtain ⟨j', _, e⟩ := h1 rfl; rw [hf] at e; cases e
  | false => exact ⟨i, rfl, K⟩
set_option maxHeartbeats 2000000 in
theorem sstep_root (hL : Lists lo w h l) (h0 : h.n0 ≤ 65536) (hn1 : h.n1 ≤ 65536) (hn2 : h.n2 ≤ 65536) (hn3 : h.n3 ≤ 65536) (hU : US w B m d ys) (hm : lv M + tv M < m) (hw : s.word < 18446744073709551616) (hph : s.phase = 1) (ha : a < 4294967296) (hM : Much a p M) (h1 : 1 ≤ ns) (h2 : ns ≤ 64) (hsh : s.shard = (hd : Int)) (hhd : hd < ns) (hso : s.sought = (k : Int)) (hk : k < ns) (hat : s.at_ = 0) :
    Calls Tryz.prog 67 #[.agg #[.int .u32 (a : Int), .int .i64 p, .slice A n c, .int .i64 (ns : Int), .int .i64 wo, .int .i64 qu, .int .i64 tr], .slice B m d, .agg (opv h s)] w (RetSk (onS (ns : Int) (ct (lv M) ns ((hd + k) % ns)) (ct (lv M) ns ((hd + k) % ns + 1)) (wdS s (gt ys (lv M + tv M)))) (onL (ns : Int) (ct (lv M) ns ((hd + k) % ns)) (ct (lv M) ns ((hd + k) % ns + 1)) (wdS s (gt ys (lv M + tv M))) l) w) := by
  have TOwn := fun w (L : Lists lo w h l) => Lib.hid (own_any (s := s) L h0 hn1 hn2 hn3)
  have TS := fun w h => Lib.hid (sought_any (w := w) (wo := wo) (qu := qu) (tr := tr) (A := A) (n := n) (c := c) (h := h) (s := s) ha hM h1 h2 hsh hhd hso hk)
  have hq1 : (hd + k) % ns < ns := Nat.mod_lt _ h1
  have hqab : (ct (lv M) ns ((hd + k) % ns)) ≤ (ct (lv M) ns ((hd + k) % ns + 1)) := ct_mono (by omega)
  have hqb : (ct (lv M) ns ((hd + k) % ns + 1)) ≤ lv M := by have := ct_mono (L := lv M) (p := ns) (show (hd + k) % ns + 1 ≤ ns by omega); rw [ct_all h1] at this; exact this
  have hM2 := hM.most
  have TRo := fun w => Lib.hid (sroot_any (w := w) (ns := ns) (wo := wo) (qu := qu) (tr := tr) (A := A) (n := n) (c := c) ha hM)
  have TL := fun w (U : US w B m d ys) => Lib.hid (load_nat U (lv M + tv M) hm)
  have hx := gt_lt hU.fit (lv M + tv M)
  have TO := fun w b1 b2 b3 h (hC : Clo w b1 b2 b3 M (ct (lv M) ns ((hd + k) % ns)) (ct (lv M) ns ((hd + k) % ns + 1))) => Lib.hid (sonward_any (w := w) (ba := a) (p := p) (sh := (ns : Int)) (wo := wo) (qu := qu) (tr := tr) (A := A) (n := n) (c := c) (h := h) (s := wdS s (gt ys (lv M + tv M))) (tt := 0) hM2 hqab hqb (show (s.at_ : Int) = ((0 : Nat) : Int) by rw [hat]; rfl) (by omega) hx (show 0 ≤ s.sought by rw [hso]; omega) (show s.sought ≤ 65536 by rw [hso]; omega) hC)
  generalize gt ys (lv M + tv M) = x at *
  generalize lv M + tv M = rc at TRo TL
  generalize (ct (lv M) ns ((hd + k) % ns)) = qa at *
  generalize (ct (lv M) ns ((hd + k) % ns + 1)) = qb at *
  clear hm hqab hqb hx hw hM hM2 hq1 ha hhd hk h1 h2
  rcases s with ⟨kind, addr, err, aad, used, phase, shard, sought, leaf, bit, word, full, at_, tries, item, stamp⟩
  rcases h with ⟨A0, n0, c0, A1, n1, c1, A2, n2, c2, A3, n3, c3⟩
  dsimp only at *
  subst hph hsh hso hat
  dsimp only [wdS] at *
  go_enter Tryz.func67, Tryz.ntmps67
  go_upto_region 1 with (fail)
  have L := Loc.start w
  replace L := (((L).alloc #[.int .u32 (a : Int), .int .i64 p, .slice A n c, .int .i64 (ns : Int), .int .i64 wo, .int .i64 qu, .int .i64 tr] 27).alloc (opv ⟨A0, n0, c0, A1, n1, c1, A2, n2, c2, A3, n3, c3⟩ ⟨kind, addr, err, aad, used, 1, (hd : Int), (k : Int), leaf, bit, word, full, 0, tries, item, stamp⟩) 40).alloc #[.int .i64 0, .int .u32 0, .slice none 0 0, .int .i64 0, .int .u32 0, .bool false, .slice none 0 0, .slice none 0 0, .int .i64 0, .int .i64 0, .int .i64 0, .int .i64 0, .int .i64 0, .int .u64 0, .bool false, .slice none 0 0, .int .i64 0, .int .i64 0, .int .i64 0, .int .i64 0] 40
  try simp only [World.size_alloc] at L
  replace L := L.is 0 (opv hd0 sc0) rfl
  try dsimp only [nput] at L
  generalize (((w).alloc (.cells #[.int .u32 (a : Int), .int .i64 p, .slice A n c, .int .i64 (ns : Int), .int .i64 wo, .int .i64 qu, .int .i64 tr] 27)).alloc (.cells (opv ⟨A0, n0, c0, A1, n1, c1, A2, n2, c2, A3, n3, c3⟩ ⟨kind, addr, err, aad, used, 1, (hd : Int), (k : Int), leaf, bit, word, full, 0, tries, item, stamp⟩) 40)).alloc (.cells #[.int .i64 0, .int .u32 0, .slice none 0 0, .int .i64 0, .int .u32 0, .bool false, .slice none 0 0, .slice none 0 0, .int .i64 0, .int .i64 0, .int .i64 0, .int .i64 0, .int .i64 0, .int .u64 0, .bool false, .slice none 0 0, .int .i64 0, .int .i64 0, .int .i64 0, .int .i64 0] 40) = w1 at L ⊢
  generalize w.heap.size + 1 + 1 = gR at L ⊢
  generalize w.heap.size + 1 = gO at L ⊢
  generalize w.heap.size = gH at L ⊢
  go_wp2_with (refine wpList_load_row rfl 40 (.tmp 5) rfl gO rfl _ _ (0, 0) _ (L.bk_ 1 rfl) Tryz.underlying40 rfl op_sz ?_)
  have KS := L.K.size
  have LbO := L.gs
  refine ((TOwn _ (hL.below L.K)).out).mono ?_
  rintro e w2 ⟨A0', c0', A1', c1', A2', c2', A3', c3', rfl, L', K'⟩
  have Lb := L.lts
  replace L := L.over K'
  replace L := L.lists Lb L'
  replace L := L.sz K'.size
  clear Lb
  try dsimp only [lF, List.cons_append, List.nil_append] at L
  clear L'
  go_upto_region 2 with (refine wpList_store_row rfl 40 (.tmp 5) (.tmp 11) rfl gO _ rfl rfl _ _ (L.bk_ 1 rfl) op_sz rfl (opv_one _ _) ?_)
  replace L := (L.row 1 rfl (opv ⟨A0', n0, c0', A1', n1, c1', A2', n2, c2', A3', n3, c3'⟩ ⟨kind, addr, err, aad, used, 1, (hd : Int), (k : Int), leaf, bit, word, full, 0, tries, item, stamp⟩))
  try dsimp only [nput] at L
  generalize (w2).setRow gO (opv ⟨A0', n0, c0', A1', n1, c1', A2', n2, c2', A3', n3, c3'⟩ ⟨kind, addr, err, aad, used, 1, (hd : Int), (k : Int), leaf, bit, word, full, 0, tries, item, stamp⟩) = w3 at L ⊢
  have O_8 := L.at_ 1 8 rfl (v := .int .i64 1) rfl
  have O_z := L.lt 1 rfl
  go_wp2_with (first | (refine wpList_load_row rfl 27 (.tmp 3) rfl gH rfl _ _ (0, 0) _ (L.bk_ 2 rfl) Tryz.underlying27 rfl cf_sz ?_) | (refine wpList_load_row rfl 40 (.tmp 5) rfl gO rfl _ _ (0, 0) _ (L.bk_ 1 rfl) Tryz.underlying40 rfl op_sz ?_))
  refine ((TS _ _).out).mono ?_
  rintro e w4 ⟨b1, b2, b3, rfl, hC, hb, K'⟩
  clear O_8 O_z
  have Lb := L.lts
  replace L := L.over K'
  replace L := L.tops Lb hC hb
  clear Lb
  try dsimp only [lF, List.cons_append, List.nil_append] at L
  clear hC hb
  have O_16 := L.at_ 1 16 rfl (v := .int .i64 0) rfl
  have O_z := L.lt 1 rfl
  go_wp2_with (refine wpList_load_row rfl 27 (.tmp 3) rfl gH rfl _ _ (0, 0) _ (L.bk_ 2 rfl) Tryz.underlying27 rfl cf_sz ?_)
  refine ((TRo _).out).mono ?_
  rintro e w5 ⟨rfl, K'⟩
  clear O_16 O_z
  replace L := L.over K'
  go_wp2_with fail
  refine ((TL _ (hU.below L.K)).out).mono ?_
  rintro e w' ⟨rfl, rfl⟩
  have O_13 := L.at_ 1 13 rfl (v := .int .u64 ((word : Nat) : Int)) rfl
  have O_z := L.lt 1 rfl
  have O_f13 := L.fz 1 13 rfl
  go_upto_region 7 with fail
  clear O_13 O_z O_f13
  replace L := ((L.set 1 13 rfl (.int .u64 ((x : Nat) : Int))).is 1 (opv ⟨A0', n0, c0', A1', n1, c1', A2', n2, c2', A3', n3, c3'⟩ ⟨kind, addr, err, aad, used, 1, (hd : Int), (k : Int), leaf, bit, x, full, 0, tries, item, stamp⟩) rfl)
  try dsimp only [nput] at L
  generalize (w5).setCell ⟨gO, 13, none⟩ (.int .u64 ((x : Nat) : Int)) = w6 at L ⊢
  go_wp2_with (first | (refine wpList_load_row rfl 27 (.tmp 3) rfl gH rfl _ _ (0, 0) _ (L.bk_ 2 rfl) Tryz.underlying27 rfl cf_sz ?_) | (refine wpList_load_row rfl 40 (.tmp 5) rfl gO rfl _ _ (0, 0) _ (L.bk_ 1 rfl) Tryz.underlying40 rfl op_sz ?_))
  refine ((TO _ _ _ _ _ (L.get 0 rfl)).out).mono ?_
  rintro e w7 ⟨rfl, K'⟩
  replace L := L.over K'
  go_wp2_with (refine wpList_store_row rfl 40 (.tmp 6) (.tmp 30) rfl gR _ rfl rfl _ _ (L.bk_ 0 rfl) op_sz rfl (opv_one _ _) ?_)
  replace L := (L.row 0 rfl (opv (onH (ns : Int) qa qb ⟨kind, addr, err, aad, used, 1, (hd : Int), (k : Int), leaf, bit, x, full, 0, tries, item, stamp⟩ ⟨A0', n0, c0', A1', n1, c1', A2', n2, c2', A3', n3, c3'⟩) (onS (ns : Int) qa qb ⟨kind, addr, err, aad, used, 1, (hd : Int), (k : Int), leaf, bit, x, full, 0, tries, item, stamp⟩)))
  try dsimp only [nput] at L
  generalize (w7).setRow gR (opv (onH (ns : Int) qa qb ⟨kind, addr, err, aad, used, 1, (hd : Int), (k : Int), leaf, bit, x, full, 0, tries, item, stamp⟩ ⟨A0', n0, c0', A1', n1, c1', A2', n2, c2', A3', n3, c3'⟩) (onS (ns : Int) qa qb ⟨kind, addr, err, aad, used, 1, (hd : Int), (k : Int), leaf, bit, x, full, 0, tries, item, stamp⟩)) = w8 at L ⊢
  refine bodyPost_ret (v := .agg (opv (onH (ns : Int) qa qb ⟨kind, addr, err, aad, used, 1, (hd : Int), (k : Int), leaf, bit, x, full, 0, tries, item, stamp⟩ ⟨A0', n0, c0', A1', n1, c1', A2', n2, c2', A3', n3, c3'⟩) (onS (ns : Int) qa qb ⟨kind, addr, err, aad, used, 1, (hd : Int), (k : Int), leaf, bit, x, full, 0, tries, item, stamp⟩))) ?_ rfl ?_
  · exact results_cell_row (fn := Tryz.f67) Tryz.results67 _ _ gR _ _ (0, 0) _ rfl (L.bk_ 0 rfl) Tryz.underlying40 rfl op_sz
  exact ⟨_, rfl, onLists ((L.lists_at 2 rfl).lower_ KS), L.K⟩
set_option maxHeartbeats 2000000 in
theorem sstep_found (hL : Lists lo w h l) (h0 : h.n0 ≤ 65536) (hn1 : h.n1 ≤ 65536) (hn2 : h.n2 ≤ 65536) (hn3 : h.n3 ≤ 65536) (hU : US w B m d ys) (hm : lv M + tv M < m) (hw : s.word < 18446744073709551616) (hph : s.phase = 1) (ha : a < 4294967296) (hM : Much a p M) (h1 : 1 ≤ ns) (h2 : ns ≤ 64) (hsh : s.shard = (hd : Int)) (hhd : hd < ns) (hso : s.sought = (k : Int)) (hk : k < ns) (hat : s.at_ = (tt : Int)) (ht0 : 1 ≤ tt) (htt : tt ≤ 64) {j : Nat} (hf : fre (ct (lv M) ns ((hd + k) % ns)) (ct (lv M) ns ((hd + k) % ns + 1)) (gt ys (lv M + (tt - 1))) (tt - 1) = some j) :
    Calls Tryz.prog 67 #[.agg #[.int .u32 (a : Int), .int .i64 p, .slice A n c, .int .i64 (ns : Int), .int .i64 wo, .int .i64 qu, .int .i64 tr], .slice B m d, .agg (opv h s)] w (RetSk (foundS s j) l w) := by
  have TOwn := fun w (L : Lists lo w h l) => Lib.hid (own_any (s := s) L h0 hn1 hn2 hn3)
  have TS := fun w h => Lib.hid (sought_any (w := w) (wo := wo) (qu := qu) (tr := tr) (A := A) (n := n) (c := c) (h := h) (s := s) ha hM h1 h2 hsh hhd hso hk)
  have hq1 : (hd + k) % ns < ns := Nat.mod_lt _ h1
  have hqab : (ct (lv M) ns ((hd + k) % ns)) ≤ (ct (lv M) ns ((hd + k) % ns + 1)) := ct_mono (by omega)
  have hqb : (ct (lv M) ns ((hd + k) % ns + 1)) ≤ lv M := by have := ct_mono (L := lv M) (p := ns) (show (hd + k) % ns + 1 ≤ ns by omega); rw [ct_all h1] at this; exact this
  have hM2 := hM.most
  have TFe := fun w b1 b2 b3 (U : US w B m d ys) (hC : Clo w b1 b2 b3 M (ct (lv M) ns ((hd + k) % ns)) (ct (lv M) ns ((hd + k) % ns + 1))) => Lib.hid (free_yes (w := w) (t := tt - 1) hM2 hqab hqb U hm (by omega) hC hf)
  obtain ⟨t1, ht1⟩ : ∃ t1 : Nat, tt = t1 + 1 := ⟨tt - 1, by omega⟩
  have e1 : (tt : Int) - 1 = ((tt - 1 : Nat) : Int) := by omega
  have e0 : ((tt : Int) == 0) = false := by simp; omega
  generalize tt - 1 = t0 at *
  have htb : tt ≤ 64 := htt
  clear ht1 ht0
  generalize (ct (lv M) ns ((hd + k) % ns)) = qa at *
  generalize (ct (lv M) ns ((hd + k) % ns + 1)) = qb at *
  clear hm hqab hqb hw hM hM2 hq1 ha hhd hk h1 h2 hf htt
  rcases s with ⟨kind, addr, err, aad, used, phase, shard, sought, leaf, bit, word, full, at_, tries, item, stamp⟩
  rcases h with ⟨A0, n0, c0, A1, n1, c1, A2, n2, c2, A3, n3, c3⟩
  dsimp only at *
  subst hph hsh hso hat
  go_enter Tryz.func67, Tryz.ntmps67
  go_upto_region 1 with (fail)
  have L := Loc.start w
  replace L := (((L).alloc #[.int .u32 (a : Int), .int .i64 p, .slice A n c, .int .i64 (ns : Int), .int .i64 wo, .int .i64 qu, .int .i64 tr] 27).alloc (opv ⟨A0, n0, c0, A1, n1, c1, A2, n2, c2, A3, n3, c3⟩ ⟨kind, addr, err, aad, used, 1, (hd : Int), (k : Int), leaf, bit, word, full, (tt : Int), tries, item, stamp⟩) 40).alloc #[.int .i64 0, .int .u32 0, .slice none 0 0, .int .i64 0, .int .u32 0, .bool false, .slice none 0 0, .slice none 0 0, .int .i64 0, .int .i64 0, .int .i64 0, .int .i64 0, .int .i64 0, .int .u64 0, .bool false, .slice none 0 0, .int .i64 0, .int .i64 0, .int .i64 0, .int .i64 0] 40
  try simp only [World.size_alloc] at L
  replace L := L.is 0 (opv hd0 sc0) rfl
  try dsimp only [nput] at L
  generalize (((w).alloc (.cells #[.int .u32 (a : Int), .int .i64 p, .slice A n c, .int .i64 (ns : Int), .int .i64 wo, .int .i64 qu, .int .i64 tr] 27)).alloc (.cells (opv ⟨A0, n0, c0, A1, n1, c1, A2, n2, c2, A3, n3, c3⟩ ⟨kind, addr, err, aad, used, 1, (hd : Int), (k : Int), leaf, bit, word, full, (tt : Int), tries, item, stamp⟩) 40)).alloc (.cells #[.int .i64 0, .int .u32 0, .slice none 0 0, .int .i64 0, .int .u32 0, .bool false, .slice none 0 0, .slice none 0 0, .int .i64 0, .int .i64 0, .int .i64 0, .int .i64 0, .int .i64 0, .int .u64 0, .bool false, .slice none 0 0, .int .i64 0, .int .i64 0, .int .i64 0, .int .i64 0] 40) = w1 at L ⊢
  generalize w.heap.size + 1 + 1 = gR at L ⊢
  generalize w.heap.size + 1 = gO at L ⊢
  generalize w.heap.size = gH at L ⊢
  go_wp2_with (refine wpList_load_row rfl 40 (.tmp 5) rfl gO rfl _ _ (0, 0) _ (L.bk_ 1 rfl) Tryz.underlying40 rfl op_sz ?_)
  have KS := L.K.size
  have LbO := L.gs
  refine ((TOwn _ (hL.below L.K)).out).mono ?_
  rintro e w2 ⟨A0', c0', A1', c1', A2', c2', A3', c3', rfl, L', K'⟩
  have Lb := L.lts
  replace L := L.over K'
  replace L := L.lists Lb L'
  replace L := L.sz K'.size
  clear Lb
  try dsimp only [lF, List.cons_append, List.nil_append] at L
  clear L'
  go_upto_region 2 with (refine wpList_store_row rfl 40 (.tmp 5) (.tmp 11) rfl gO _ rfl rfl _ _ (L.bk_ 1 rfl) op_sz rfl (opv_one _ _) ?_)
  replace L := (L.row 1 rfl (opv ⟨A0', n0, c0', A1', n1, c1', A2', n2, c2', A3', n3, c3'⟩ ⟨kind, addr, err, aad, used, 1, (hd : Int), (k : Int), leaf, bit, word, full, (tt : Int), tries, item, stamp⟩))
  try dsimp only [nput] at L
  generalize (w2).setRow gO (opv ⟨A0', n0, c0', A1', n1, c1', A2', n2, c2', A3', n3, c3'⟩ ⟨kind, addr, err, aad, used, 1, (hd : Int), (k : Int), leaf, bit, word, full, (tt : Int), tries, item, stamp⟩) = w3 at L ⊢
  have O_8 := L.at_ 1 8 rfl (v := .int .i64 1) rfl
  have O_z := L.lt 1 rfl
  go_wp2_with (first | (refine wpList_load_row rfl 27 (.tmp 3) rfl gH rfl _ _ (0, 0) _ (L.bk_ 2 rfl) Tryz.underlying27 rfl cf_sz ?_) | (refine wpList_load_row rfl 40 (.tmp 5) rfl gO rfl _ _ (0, 0) _ (L.bk_ 1 rfl) Tryz.underlying40 rfl op_sz ?_))
  refine ((TS _ _).out).mono ?_
  rintro e w4 ⟨b1, b2, b3, rfl, hC, hb, K'⟩
  clear O_8 O_z
  have Lb := L.lts
  replace L := L.over K'
  replace L := L.tops Lb hC hb
  clear Lb
  try dsimp only [lF, List.cons_append, List.nil_append] at L
  clear hC hb
  have O_16 := L.at_ 1 16 rfl (v := .int .i64 (tt : Int)) rfl
  have O_z := L.lt 1 rfl
  go_wp2_with fail
  refine ((TFe _ _ _ _ (hU.below L.K) (L.get 0 rfl)).out).mono ?_
  rintro e w5 ⟨rfl, K'⟩
  clear O_16 O_z
  replace L := L.over K'
  have O_8 := L.at_ 1 8 rfl (v := .int .i64 1) rfl
  have O_11 := L.at_ 1 11 rfl (v := .int .i64 leaf) rfl
  have O_13 := L.at_ 1 13 rfl (v := .int .u64 ((word : Nat) : Int)) rfl
  have O_16 := L.at_ 1 16 rfl (v := .int .i64 (tt : Int)) rfl
  have O_z := L.lt 1 rfl
  have O_f8 := L.fz 1 8 rfl
  have O_f11 := L.fz 1 11 rfl
  have O_f13 := L.fz 1 13 rfl
  have O_f16 := L.fz 1 16 rfl
  go_upto_region 12 with fail
  clear O_8 O_11 O_13 O_16 O_z O_f8 O_f11 O_f13 O_f16
  replace L := (((((L.set 1 8 rfl (.int .i64 2)).set 1 11 rfl (.int .i64 (j : Nat))).set 1 13 rfl (.int .u64 0)).set 1 16 rfl (.int .i64 0)).is 1 (opv ⟨A0', n0, c0', A1', n1, c1', A2', n2, c2', A3', n3, c3'⟩ ⟨kind, addr, err, aad, used, 2, (hd : Int), (k : Int), (j : Nat), bit, 0, full, 0, tries, item, stamp⟩) rfl)
  try dsimp only [nput] at L
  generalize ((((w5).setCell ⟨gO, 8, none⟩ (.int .i64 2)).setCell ⟨gO, 11, none⟩ (.int .i64 (j : Nat))).setCell ⟨gO, 13, none⟩ (.int .u64 0)).setCell ⟨gO, 16, none⟩ (.int .i64 0) = w6 at L ⊢
  go_wp2_with (first | (refine wpList_load_row rfl 40 (.tmp 5) rfl gO rfl _ _ (0, 0) _ (L.bk_ 1 rfl) Tryz.underlying40 rfl op_sz ?_) | (refine wpList_store_row rfl 40 (.tmp 6) (.tmp 51) rfl gR _ rfl rfl _ _ (L.bk_ 0 rfl) op_sz rfl (opv_one _ _) ?_))
  replace L := (L.row 0 rfl (opv ⟨A0', n0, c0', A1', n1, c1', A2', n2, c2', A3', n3, c3'⟩ ⟨kind, addr, err, aad, used, 2, (hd : Int), (k : Int), (j : Nat), bit, 0, full, 0, tries, item, stamp⟩))
  try dsimp only [nput] at L
  generalize (w6).setRow gR (opv ⟨A0', n0, c0', A1', n1, c1', A2', n2, c2', A3', n3, c3'⟩ ⟨kind, addr, err, aad, used, 2, (hd : Int), (k : Int), (j : Nat), bit, 0, full, 0, tries, item, stamp⟩) = w7 at L ⊢
  refine bodyPost_ret (v := .agg (opv ⟨A0', n0, c0', A1', n1, c1', A2', n2, c2', A3', n3, c3'⟩ ⟨kind, addr, err, aad, used, 2, (hd : Int), (k : Int), (j : Nat), bit, 0, full, 0, tries, item, stamp⟩)) ?_ rfl ?_
  · exact results_cell_row (fn := Tryz.f67) Tryz.results67 _ _ gR _ _ (0, 0) _ rfl (L.bk_ 0 rfl) Tryz.underlying40 rfl op_sz
  exact ⟨_, rfl, (L.lists_at 2 rfl).lower_ KS, L.K⟩
set_option maxHeartbeats 2000000 in
theorem sstep_on (hL : Lists lo w h l) (h0 : h.n0 ≤ 65536) (hn1 : h.n1 ≤ 65536) (hn2 : h.n2 ≤ 65536) (hn3 : h.n3 ≤ 65536) (hU : US w B m d ys) (hm : lv M + tv M < m) (hw : s.word < 18446744073709551616) (hph : s.phase = 1) (ha : a < 4294967296) (hM : Much a p M) (h1 : 1 ≤ ns) (h2 : ns ≤ 64) (hsh : s.shard = (hd : Int)) (hhd : hd < ns) (hso : s.sought = (k : Int)) (hk : k < ns) (hat : s.at_ = (tt : Int)) (ht0 : 1 ≤ tt) (htt : tt ≤ 64) (hf : fre (ct (lv M) ns ((hd + k) % ns)) (ct (lv M) ns ((hd + k) % ns + 1)) (gt ys (lv M + (tt - 1))) (tt - 1) = none) :
    Calls Tryz.prog 67 #[.agg #[.int .u32 (a : Int), .int .i64 p, .slice A n c, .int .i64 (ns : Int), .int .i64 wo, .int .i64 qu, .int .i64 tr], .slice B m d, .agg (opv h s)] w (RetSk (onS (ns : Int) (ct (lv M) ns ((hd + k) % ns)) (ct (lv M) ns ((hd + k) % ns + 1)) s) (onL (ns : Int) (ct (lv M) ns ((hd + k) % ns)) (ct (lv M) ns ((hd + k) % ns + 1)) s l) w) := by
  have TOwn := fun w (L : Lists lo w h l) => Lib.hid (own_any (s := s) L h0 hn1 hn2 hn3)
  have TS := fun w h => Lib.hid (sought_any (w := w) (wo := wo) (qu := qu) (tr := tr) (A := A) (n := n) (c := c) (h := h) (s := s) ha hM h1 h2 hsh hhd hso hk)
  have hq1 : (hd + k) % ns < ns := Nat.mod_lt _ h1
  have hqab : (ct (lv M) ns ((hd + k) % ns)) ≤ (ct (lv M) ns ((hd + k) % ns + 1)) := ct_mono (by omega)
  have hqb : (ct (lv M) ns ((hd + k) % ns + 1)) ≤ lv M := by have := ct_mono (L := lv M) (p := ns) (show (hd + k) % ns + 1 ≤ ns by omega); rw [ct_all h1] at this; exact this
  have hM2 := hM.most
  have TFe := fun w b1 b2 b3 (U : US w B m d ys) (hC : Clo w b1 b2 b3 M (ct (lv M) ns ((hd + k) % ns)) (ct (lv M) ns ((hd + k) % ns + 1))) => Lib.hid (free_no (w := w) (t := tt - 1) hM2 hqab hqb U hm (by omega) hC hf)
  have TO := fun w b1 b2 b3 h (hC : Clo w b1 b2 b3 M (ct (lv M) ns ((hd + k) % ns)) (ct (lv M) ns ((hd + k) % ns + 1))) => Lib.hid (sonward_any (w := w) (ba := a) (p := p) (sh := (ns : Int)) (wo := wo) (qu := qu) (tr := tr) (A := A) (n := n) (c := c) (h := h) (s := s) (tt := tt) hM2 hqab hqb hat (by omega) hw (by rw [hso]; omega) (by rw [hso]; omega) hC)
  obtain ⟨t1, ht1⟩ : ∃ t1 : Nat, tt = t1 + 1 := ⟨tt - 1, by omega⟩
  have e1 : (tt : Int) - 1 = ((tt - 1 : Nat) : Int) := by omega
  have e0 : ((tt : Int) == 0) = false := by simp; omega
  generalize tt - 1 = t0 at *
  have htb : tt ≤ 64 := htt
  clear ht1 ht0
  generalize (ct (lv M) ns ((hd + k) % ns)) = qa at *
  generalize (ct (lv M) ns ((hd + k) % ns + 1)) = qb at *
  clear hm hqab hqb hw hM hM2 hq1 ha hhd hk h1 h2 hf htt
  rcases s with ⟨kind, addr, err, aad, used, phase, shard, sought, leaf, bit, word, full, at_, tries, item, stamp⟩
  rcases h with ⟨A0, n0, c0, A1, n1, c1, A2, n2, c2, A3, n3, c3⟩
  dsimp only at *
  subst hph hsh hso hat
  go_enter Tryz.func67, Tryz.ntmps67
  go_upto_region 1 with (fail)
  have L := Loc.start w
  replace L := (((L).alloc #[.int .u32 (a : Int), .int .i64 p, .slice A n c, .int .i64 (ns : Int), .int .i64 wo, .int .i64 qu, .int .i64 tr] 27).alloc (opv ⟨A0, n0, c0, A1, n1, c1, A2, n2, c2, A3, n3, c3⟩ ⟨kind, addr, err, aad, used, 1, (hd : Int), (k : Int), leaf, bit, word, full, (tt : Int), tries, item, stamp⟩) 40).alloc #[.int .i64 0, .int .u32 0, .slice none 0 0, .int .i64 0, .int .u32 0, .bool false, .slice none 0 0, .slice none 0 0, .int .i64 0, .int .i64 0, .int .i64 0, .int .i64 0, .int .i64 0, .int .u64 0, .bool false, .slice none 0 0, .int .i64 0, .int .i64 0, .int .i64 0, .int .i64 0] 40
  try simp only [World.size_alloc] at L
  replace L := L.is 0 (opv hd0 sc0) rfl
  try dsimp only [nput] at L
  generalize (((w).alloc (.cells #[.int .u32 (a : Int), .int .i64 p, .slice A n c, .int .i64 (ns : Int), .int .i64 wo, .int .i64 qu, .int .i64 tr] 27)).alloc (.cells (opv ⟨A0, n0, c0, A1, n1, c1, A2, n2, c2, A3, n3, c3⟩ ⟨kind, addr, err, aad, used, 1, (hd : Int), (k : Int), leaf, bit, word, full, (tt : Int), tries, item, stamp⟩) 40)).alloc (.cells #[.int .i64 0, .int .u32 0, .slice none 0 0, .int .i64 0, .int .u32 0, .bool false, .slice none 0 0, .slice none 0 0, .int .i64 0, .int .i64 0, .int .i64 0, .int .i64 0, .int .i64 0, .int .u64 0, .bool false, .slice none 0 0, .int .i64 0, .int .i64 0, .int .i64 0, .int .i64 0] 40) = w1 at L ⊢
  generalize w.heap.size + 1 + 1 = gR at L ⊢
  generalize w.heap.size + 1 = gO at L ⊢
  generalize w.heap.size = gH at L ⊢
  go_wp2_with (refine wpList_load_row rfl 40 (.tmp 5) rfl gO rfl _ _ (0, 0) _ (L.bk_ 1 rfl) Tryz.underlying40 rfl op_sz ?_)
  have KS := L.K.size
  have LbO := L.gs
  refine ((TOwn _ (hL.below L.K)).out).mono ?_
  rintro e w2 ⟨A0', c0', A1', c1', A2', c2', A3', c3', rfl, L', K'⟩
  have Lb := L.lts
  replace L := L.over K'
  replace L := L.lists Lb L'
  replace L := L.sz K'.size
  clear Lb
  try dsimp only [lF, List.cons_append, List.nil_append] at L
  clear L'
  go_upto_region 2 with (refine wpList_store_row rfl 40 (.tmp 5) (.tmp 11) rfl gO _ rfl rfl _ _ (L.bk_ 1 rfl) op_sz rfl (opv_one _ _) ?_)
  replace L := (L.row 1 rfl (opv ⟨A0', n0, c0', A1', n1, c1', A2', n2, c2', A3', n3, c3'⟩ ⟨kind, addr, err, aad, used, 1, (hd : Int), (k : Int), leaf, bit, word, full, (tt : Int), tries, item, stamp⟩))
  try dsimp only [nput] at L
  generalize (w2).setRow gO (opv ⟨A0', n0, c0', A1', n1, c1', A2', n2, c2', A3', n3, c3'⟩ ⟨kind, addr, err, aad, used, 1, (hd : Int), (k : Int), leaf, bit, word, full, (tt : Int), tries, item, stamp⟩) = w3 at L ⊢
  have O_8 := L.at_ 1 8 rfl (v := .int .i64 1) rfl
  have O_z := L.lt 1 rfl
  go_wp2_with (first | (refine wpList_load_row rfl 27 (.tmp 3) rfl gH rfl _ _ (0, 0) _ (L.bk_ 2 rfl) Tryz.underlying27 rfl cf_sz ?_) | (refine wpList_load_row rfl 40 (.tmp 5) rfl gO rfl _ _ (0, 0) _ (L.bk_ 1 rfl) Tryz.underlying40 rfl op_sz ?_))
  refine ((TS _ _).out).mono ?_
  rintro e w4 ⟨b1, b2, b3, rfl, hC, hb, K'⟩
  clear O_8 O_z
  have Lb := L.lts
  replace L := L.over K'
  replace L := L.tops Lb hC hb
  clear Lb
  try dsimp only [lF, List.cons_append, List.nil_append] at L
  clear hC hb
  have O_16 := L.at_ 1 16 rfl (v := .int .i64 (tt : Int)) rfl
  have O_z := L.lt 1 rfl
  go_wp2_with fail
  refine ((TFe _ _ _ _ (hU.below L.K) (L.get 0 rfl)).out).mono ?_
  rintro e w5 ⟨i, rfl, K'⟩
  clear O_16 O_z
  replace L := L.over K'
  go_wp2_with (first | (refine wpList_load_row rfl 27 (.tmp 3) rfl gH rfl _ _ (0, 0) _ (L.bk_ 2 rfl) Tryz.underlying27 rfl cf_sz ?_) | (refine wpList_load_row rfl 40 (.tmp 5) rfl gO rfl _ _ (0, 0) _ (L.bk_ 1 rfl) Tryz.underlying40 rfl op_sz ?_))
  refine ((TO _ _ _ _ _ (L.get 0 rfl)).out).mono ?_
  rintro e w6 ⟨rfl, K'⟩
  replace L := L.over K'
  go_wp2_with (refine wpList_store_row rfl 40 (.tmp 6) (.tmp 45) rfl gR _ rfl rfl _ _ (L.bk_ 0 rfl) op_sz rfl (opv_one _ _) ?_)
  replace L := (L.row 0 rfl (opv (onH (ns : Int) qa qb ⟨kind, addr, err, aad, used, 1, (hd : Int), (k : Int), leaf, bit, word, full, (tt : Int), tries, item, stamp⟩ ⟨A0', n0, c0', A1', n1, c1', A2', n2, c2', A3', n3, c3'⟩) (onS (ns : Int) qa qb ⟨kind, addr, err, aad, used, 1, (hd : Int), (k : Int), leaf, bit, word, full, (tt : Int), tries, item, stamp⟩)))
  try dsimp only [nput] at L
  generalize (w6).setRow gR (opv (onH (ns : Int) qa qb ⟨kind, addr, err, aad, used, 1, (hd : Int), (k : Int), leaf, bit, word, full, (tt : Int), tries, item, stamp⟩ ⟨A0', n0, c0', A1', n1, c1', A2', n2, c2', A3', n3, c3'⟩) (onS (ns : Int) qa qb ⟨kind, addr, err, aad, used, 1, (hd : Int), (k : Int), leaf, bit, word, full, (tt : Int), tries, item, stamp⟩)) = w7 at L ⊢
  refine bodyPost_ret (v := .agg (opv (onH (ns : Int) qa qb ⟨kind, addr, err, aad, used, 1, (hd : Int), (k : Int), leaf, bit, word, full, (tt : Int), tries, item, stamp⟩ ⟨A0', n0, c0', A1', n1, c1', A2', n2, c2', A3', n3, c3'⟩) (onS (ns : Int) qa qb ⟨kind, addr, err, aad, used, 1, (hd : Int), (k : Int), leaf, bit, word, full, (tt : Int), tries, item, stamp⟩))) ?_ rfl ?_
  · exact results_cell_row (fn := Tryz.f67) Tryz.results67 _ _ gR _ _ (0, 0) _ rfl (L.bk_ 0 rfl) Tryz.underlying40 rfl op_sz
  exact ⟨_, rfl, onLists ((L.lists_at 2 rfl).lower_ KS), L.K⟩
theorem sstep_any (hL : Lists lo w h l) (h0 : h.n0 ≤ 65536) (hn1 : h.n1 ≤ 65536) (hn2 : h.n2 ≤ 65536) (hn3 : h.n3 ≤ 65536) (hU : US w B m d ys) (hm : lv M + tv M < m) (hw : s.word < 18446744073709551616) (hph : s.phase = 1) (ha : a < 4294967296) (hM : Much a p M) (h1 : 1 ≤ ns) (h2 : ns ≤ 64) (hsh : s.shard = (hd : Int)) (hhd : hd < ns) (hso : s.sought = (k : Int)) (hk : k < ns) (hat : s.at_ = (tt : Int)) (htt : tt ≤ 64) :
    Calls Tryz.prog 67 #[.agg #[.int .u32 (a : Int), .int .i64 p, .slice A n c, .int .i64 (ns : Int), .int .i64 wo, .int .i64 qu, .int .i64 tr], .slice B m d, .agg (opv h s)] w (RetSk (skS (ns : Int) M ys (ct (lv M) ns ((hd + k) % ns)) (ct (lv M) ns ((hd + k) % ns + 1)) s) (skL (ns : Int) M ys (ct (lv M) ns ((hd + k) % ns)) (ct (lv M) ns ((hd + k) % ns + 1)) s l) w) := by
  unfold skS skL
  rcases Nat.eq_zero_or_pos tt with rfl | ht
  · rw [if_pos (show s.at_ = 0 from hat), if_pos (show s.at_ = 0 from hat)]
    exact sstep_root hL h0 hn1 hn2 hn3 hU hm hw hph ha hM h1 h2 hsh hhd hso hk hat
  · have hne : s.at_ ≠ 0 := by omega
    rw [if_neg hne, if_neg hne, hat, Int.toNat_natCast]
    cases hf : fre (ct (lv M) ns ((hd + k) % ns)) (ct (lv M) ns ((hd + k) % ns + 1)) (gt ys (lv M + (tt - 1))) (tt - 1) with
    | some j => exact sstep_found hL h0 hn1 hn2 hn3 hU hm hw hph ha hM h1 h2 hsh hhd hso hk hat ht htt hf
    | none => exact sstep_on hL h0 hn1 hn2 hn3 hU hm hw hph ha hM h1 h2 hsh hhd hso hk hat ht htt hf
end
end Go.Proofs.YtghecdccdmeooaaGreat

/-
  What New of package word, and the document's, answer of a configuration that may be: the leaf's first word; nothing that was there is otherwise.
-/
namespace Go.Proofs.YtghecdccdmeooaaGreat
set_option maxRecDepth 100000
open Go.RowKit
section
variable {w : World} {lo a M l : Nat} {p sh wo qu tr : Int} {A : Option Addr} {n c : Nat} {xs : List Int}
theorem wnew_any (ha : a < 4294967296) (hM : Much a p M) (h : IS .i64 lo w A n c xs) (hn : n ≤ 65536) (hr : risB M 0 xs = true) (hl : 32 * l < M) :
    Calls Tryz.prog 30 #[.agg #[.int .u32 a, .int .i64 p, .slice A n c, .int .i64 sh, .int .i64 wo, .int .i64 qu, .int .i64 tr], .int .i64 l] w fun e w' => e = .returned (.int .u64 (nw M xs l)) ∧ Below w.heap.size w w' := by
  have hlen := h.len
  have hm := hM.most
  have hwd : wd M l ≤ 32 := by unfold wd; omega
  have hN := Lib.hid (nw_first M l hl)
  have T1 := fun w => Lib.hid (width_any M l hm (by omega) w)
  have T2 : ∀ w, Hid (Calls Tryz.prog 29 #[.int .i64 32] w fun e w' => e = .returned (.int .u64 (msk 32)) ∧ w = w') := fun w => mask_any 32 (by decide) w
  have T3 := fun w => Lib.hid (mask_any (wd M l) (by omega) w)
  have hk1 := msk_lt (n := 32) (by decide)
  have hk2 := msk_lt (n := wd M l) (by omega)
  generalize wd M l = W at *
  generalize msk W = m2 at *
  generalize msk 32 = m1 at *
  have hA : Go.bits .andNot .u64 (m1 : Int) (m2 : Int) = (nw M [] l : Nat) := by rw [u64_andNot_nat m1 m2 hk1 hk2, hN.out]
  clear hN hk1 hk2
  have K := below_alloc w (.cells #[.int .u32 a, .int .i64 p, .slice A n c, .int .i64 sh, .int .i64 wo, .int .i64 qu, .int .i64 tr] 27)
  have H := Bk.new w #[.int .u32 a, .int .i64 p, .slice A n c, .int .i64 sh, .int .i64 wo, .int .i64 qu, .int .i64 tr] 27
  replace h := h.below K
  go_enter Tryz.func30, Tryz.ntmps30
  go_wp2_with fail
  generalize w.alloc (.cells #[.int .u32 a, .int .i64 p, .slice A n c, .int .i64 sh, .int .i64 wo, .int .i64 qu, .int .i64 tr] 27) = w1 at H K h ⊢
  generalize w.heap.size = g at H ⊢
  refine (many_yes ha hM).mono ?_
  rintro e w2 ⟨rfl, K'⟩
  replace H := H.below K'
  replace h := h.below K'
  replace K := Below.then_ K K'
  clear K'
  have H_0 := H.at_ (v := .int .u32 a) 0 rfl
  have H_1 := H.at_ (v := .int .i64 p) 1 rfl
  have H_2 := H.at_ (v := .slice A n c) 2 rfl
  have H_3 := H.at_ (v := .int .i64 sh) 3 rfl
  have H_4 := H.at_ (v := .int .i64 wo) 4 rfl
  have H_5 := H.at_ (v := .int .i64 qu) 5 rfl
  have H_6 := H.at_ (v := .int .i64 tr) 6 rfl
  have H_z := H.lt
  go_wp2_with (first
    | ((with_reducible refine ((T1 _).out).mono ?_); rintro e w' ⟨rfl, rfl⟩)
    | ((with_reducible refine ((T2 _).out).mono ?_); rintro e w' ⟨rfl, rfl⟩)
    | ((with_reducible refine ((T3 _).out).mono ?_); rintro e w' ⟨rfl, rfl⟩))
  clear T1 T2 T3 hA
  go_loop [6, 23] (fun m i => ∃ k : Nat, k ≤ n ∧ i = .int .i64 k ∧ m = .int .u64 (nw M (xs.take k) l)) (fun _ i => n - (intOf i).toNat)
  case atStart => exact ⟨0, Nat.zero_le _, rfl, rfl⟩
  case round =>
    obtain ⟨k, hk, rfl, rfl⟩ := hrel
    by_cases hlt : k < n
    · have hx := risB_mem hr (gi_mem (xs := xs) (j := k) (by omega))
      obtain ⟨o, ho⟩ : ∃ o : Nat, gi xs k = (o : Int) := ⟨(gi xs k).toNat, by omega⟩
      obtain ⟨b, off, rfl, _, hc⟩ := h.get hlt
      rw [ho] at hc
      have ho2 : o ≤ 65536 := by omega
      have T := fun w => Lib.hid (leaf_any o ho2 w)
      obtain ⟨q, hq⟩ : ∃ q : Nat, q = o / 32 := ⟨_, rfl⟩
      obtain ⟨r, hr2⟩ : ∃ r : Nat, r = o % 32 := ⟨_, rfl⟩
      have hr3 : r < 64 := by omega
      rw [← hq, ← hr2] at T
      by_cases he : q = l
      · have S := Lib.hid (nw_hit (M := M) (xs := xs) (by omega) ho (hq.symm.trans he))
        rw [← hr2] at S
        have e1 : ((q : Int) == (l : Int)) = true := by simp [he]
        have T2 := fun w => Lib.hid (with_any (nw M (xs.take k) l) r (nw_lt _ _ _) hr3 w)
        clear ho hx hq hr2 he
        go_wp2_with (first
          | ((with_reducible refine ((T _).out).mono ?_); rintro e w' ⟨rfl, rfl⟩)
          | ((with_reducible refine ((T2 _).out).mono ?_); rintro e w' ⟨rfl, rfl⟩))
        go_round
        case rel => exact ⟨k + 1, by omega, by go_num, by rw [S.out]⟩
        case measure => simp [intOf]; omega
      · have S := Lib.hid (nw_miss (M := M) (xs := xs) (l := l) (by omega) ho (by omega))
        have e1 : ((q : Int) == (l : Int)) = false := by simp; omega
        clear ho hx hq hr2 he
        go_wp2_with ((with_reducible refine ((T _).out).mono ?_); rintro e w' ⟨rfl, rfl⟩)
        go_round
        case rel => exact ⟨k + 1, by omega, by go_num, by rw [S.out]⟩
        case measure => simp [intOf]; omega
    · go_wp2
      go_ret
      have e : k = n := by omega
      subst e
      refine ⟨ret_int ?_, K⟩
      rw [List.take_of_length_le (by omega)]
end
end Go.Proofs.YtghecdccdmeooaaGreat

/-
  What Cells of package word answers of a configuration that may be: the first cells; nothing that was there is otherwise.
-/
namespace Go.Proofs.YtghecdccdmeooaaGreat
set_option maxRecDepth 100000
open Go.RowKit
theorem Blk.below {w w' : World} {g : Nat} {t : TypeId} {xs : List Nat} (h : Blk w g t xs) (K : Below w.heap.size w w') : Blk w' g t xs := (K.block g h.lt).trans h
theorem wfree_any {w : World} {g M j : Nat} {xs : List Nat} (hB : Blk w g 37 xs) (hl : xs.length = lv M + tv M + 1) (hf : ∀ x ∈ xs, x < U64) (hm : M ≤ 65536) (hj : j < lv M) :
    Calls Tryz.prog 32 #[.slice (some ⟨g, 0, none⟩) (lv M + tv M + 1) (lv M + tv M + 1), .int .i64 M, .int .i64 j] w fun e w' => e = .returned (.tuple #[]) ∧ Blk w' g 37 ((xs.set (lv M + j / 64) (clrb (gt xs (lv M + j / 64)) (j % 64))).set (lv M + tv M) (clrb (gt xs (lv M + tv M)) (j / 64))) ∧ Below g w w' := by
  have h1 := lv_le hm
  have h2 := tv_le hm
  have h3 : j / 64 < tv M := by unfold tv tq; omega
  have T1 := fun w => Lib.hid (top_any M j hm (by omega) w)
  have T2 := fun w => Lib.hid (rootof_any M j hm (by omega) w)
  obtain ⟨tp, htp⟩ : ∃ x : Nat, x = lv M + j / 64 := ⟨_, rfl⟩
  obtain ⟨rt, hrt⟩ : ∃ x : Nat, x = lv M + tv M := ⟨_, rfl⟩
  obtain ⟨b1, hb1⟩ : ∃ x : Nat, x = j % 64 := ⟨_, rfl⟩
  obtain ⟨b2, hb2⟩ : ∃ x : Nat, x = j / 64 := ⟨_, rfl⟩
  rw [← htp, ← hb1] at T1
  rw [← hrt, ← hb2] at T2
  rw [← htp, ← hrt, ← hb1, ← hb2]
  rw [← hrt] at hl
  have g1 : tp < rt + 1 := by omega
  have g2 : tp ≠ rt := by omega
  have g3 : b1 < 64 := by omega
  have g4 : b2 < 64 := by omega
  have g5 : rt ≤ 3000 := by omega
  have C1 := fun w => Lib.hid (clear_any (gt xs tp) b1 (gt_lt hf tp) g3 w)
  have C2 := fun w => Lib.hid (clear_any (gt xs rt) b2 (gt_lt hf rt) g4 w)
  have c1 := hB.cell (i := tp) (by omega)
  have f1 := hB.frozen tp
  have hB1 := hB.set_ tp (clrb (gt xs tp) b1)
  have c2 := hB1.cell (i := rt) (by simp; omega)
  rw [gt_set (by omega), if_neg g2] at c2
  have f2 := hB1.frozen rt
  have hB2 := Lib.hid (hB1.set_ rt (clrb (gt xs rt) b2))
  clear hB1 hB htp hrt hb1 hb2 h3 hf hl
  generalize clrb (gt xs tp) b1 = v1 at *
  generalize clrb (gt xs rt) b2 = v2 at *
  generalize gt xs tp = x1 at *
  generalize gt xs rt = x2 at *
  go_enter Tryz.func32, Tryz.ntmps32
  go_wp2_with (first
    | ((with_reducible refine ((T1 _).out).mono ?_); rintro e w' ⟨rfl, rfl⟩)
    | ((with_reducible refine ((T2 _).out).mono ?_); rintro e w' ⟨rfl, rfl⟩)
    | ((with_reducible refine ((C1 _).out).mono ?_); rintro e w' ⟨rfl, rfl⟩)
    | ((with_reducible refine ((C2 _).out).mono ?_); rintro e w' ⟨rfl, rfl⟩))
  go_end0
  exact ⟨rfl, hB2.out, ((Below.refl g w).setCell (p := ⟨g, tp, none⟩) (Nat.le_refl _) _).setCell (p := ⟨g, rt, none⟩) (Nat.le_refl _) _⟩
end Go.Proofs.YtghecdccdmeooaaGreat

/-
  Operations that sweep, as functions of numbers. No program in it.
-/
namespace Go.Proofs.YtghecdccdmeooaaGreat
set_option maxRecDepth 100000
open Go.RowKit
set_option linter.unusedVariables false
/-- The operation in another Phase, with nothing left of its sweep. -/
def swLe (s : Sc) (ph : Int) : Sc := ⟨s.kind, s.addr, s.err, s.aad, s.used, ph, s.shard, s.sought, s.leaf, s.bit, s.word, s.full, 0, s.tries, s.item, s.stamp⟩
def swH (h : Hd) : Hd := ⟨h.A0, h.n0, h.c0, h.A1, h.n1, h.c1, h.A2, h.n2, h.c2, none, 0, 0⟩
def swNo (l : Ls) : Ls := ⟨l.rqs, l.ads, l.ers, []⟩
theorem swLists {lo : Nat} {w : World} {h : Hd} {l : Ls} (H : Lists lo w h l) : Lists lo w (swH h) (swNo l) := ⟨H.i0, H.i1, H.i2, IS.none_ _ _ _⟩
/-- A bit was found: it is claimed. -/
def swFc (s : Sc) (x b : Nat) : Sc := ⟨s.kind, s.addr, s.err, s.aad, s.used, 3, s.shard, s.sought, s.at_, (b : Int), x, s.full, 0, s.tries, s.item, s.stamp⟩
/-- The next leaf; the second collect; all was used. -/
def swMv (s : Sc) : Sc := ⟨s.kind, s.addr, s.err, s.aad, s.used, s.phase, s.shard, s.sought, s.leaf, s.bit, s.word, s.full, s.at_ + 1, s.tries, s.item, s.stamp⟩
def swAg (s : Sc) : Sc := ⟨s.kind, s.addr, s.err, s.aad, s.used, 7, s.shard, s.sought, s.leaf, s.bit, s.word, s.full, 0, s.tries, s.item, s.stamp⟩
def swEn (s : Sc) : Sc := ⟨s.kind, s.addr, 9, s.aad, s.used, 0, s.shard, s.sought, s.leaf, s.bit, s.word, s.full, 0, s.tries, s.item, s.stamp⟩
/-- A step of a Grant's first collect that read x; of its second one. -/
def swF (L : Nat) (x : Nat) (s : Sc) : Sc := if fb x 32 = true then swFc s x (fi x 32) else if s.at_ + 1 < (L : Int) then swMv s else swAg s
def swFL (x : Nat) (l : Ls) : Ls := if fb x 32 = true then swNo l else ⟨l.rqs, l.ads, l.ers, l.ses ++ [(x : Int)]⟩
def swA (L : Nat) (x y : Nat) (s : Sc) : Sc := if x = y then (if s.at_ + 1 < (L : Int) then swMv s else swEn s) else swLe s 6
def swAL (L : Nat) (x y : Nat) (s : Sc) (l : Ls) : Ls := if x = y then (if s.at_ + 1 < (L : Int) then l else swNo l) else swNo l
def swAB (L : Nat) (x y : Nat) (s : Sc) : Bool := decide (x = y) && decide (¬ s.at_ + 1 < (L : Int))
/-- What a step of sweeping answers: an operation with lists of its own, whether it took effect. -/
def RetSw (lo : Nat) (s : Sc) (l : Ls) (b : Bool) (w : World) (e : Ending) (w' : World) : Prop := ∃ h', e = .returned (.tuple #[.agg (opv h' s), .bool b]) ∧ Lists lo w' h' l ∧ Below w.heap.size w w'
/-- What the first collect answers, while its caller's blocks stand. -/
def RetSwL (lo : Nat) (s : Sc) (l : Ls) (gR gO gH : Nat) (so : Array Value) (cf : Array Value) (w0 w : World) (e : Ending) (w' : World) : Prop :=
  ∃ h', e = .returned (.agg (opv h' s)) ∧ Lists lo w' h' l ∧ Loc w0 w' [(gR, 40, opv hd0 sc0), (gO, 40, so), (gH, 27, cf)] []
/-- What op.Own answers, Seen as a row of the call's own, apart from the other lists. -/
def RetOwnS (h : Hd) (s : Sc) (l : Ls) (w : World) (e : Ending) (w' : World) : Prop :=
  ∃ A0 c0 A1 c1 A2 c2 A3 c3, e = .returned (.agg (opv ⟨A0, h.n0, c0, A1, h.n1, c1, A2, h.n2, c2, A3, h.n3, c3⟩ s)) ∧ IS .u32 w.heap.size w' A0 h.n0 c0 l.rqs ∧ IS .u32 w.heap.size w' A1 h.n1 c1 l.ads ∧ IS .i64 w.heap.size w' A2 h.n2 c2 l.ers ∧ Ri .u64 37 w' w.heap.size (.slice A3 h.n3 c3) h.n3 l.ses
    ∧ SepF (.slice A3 h.n3 c3) (iF .u32 w.heap.size A0 h.n0 c0 l.rqs) ∧ SepF (.slice A3 h.n3 c3) (iF .u32 w.heap.size A1 h.n1 c1 l.ads) ∧ SepF (.slice A3 h.n3 c3) (iF .i64 w.heap.size A2 h.n2 c2 l.ers) ∧ Below w.heap.size w w'
/-- The words that were seen, as cells. -/
theorem IS.seen {lo : Nat} {w : World} {A : Option Addr} {n c : Nat} {sn : List Nat} (h : IS .u64 lo w A n c (sn.map Int.ofNat)) (hf : ∀ x ∈ sn, x < U64) : US w A n c sn := by
  have h1 : ∀ x ∈ sn.map Int.ofNat, (Lit.int .u64 x).wf = true := fun x hx => by
    obtain ⟨y, hy, rfl⟩ := List.mem_map.1 hx
    have h2 : y < 18446744073709551616 := hf y hy
    have h3 : (0 : Int) ≤ Int.ofNat y ∧ Int.ofNat y ≤ 18446744073709551615 := ⟨Int.natCast_nonneg y, by show (y : Int) ≤ _; omega⟩
    simpa [Lit.wf, IntKind.min, IntKind.max, IntKind.bits, IntKind.signed] using h3
  have h2 := h.toUS h1
  have h3 : (sn.map Int.ofNat).map Int.toNat = sn := by simp [Function.comp_def]
  rw [h3] at h2
  exact h2
end Go.Proofs.YtghecdccdmeooaaGreat

/-
  What op.Own answers, Seen as a row of the call's own. Conditions: at most 65536 items a list.
-/
namespace Go.Proofs.YtghecdccdmeooaaGreat
set_option maxRecDepth 100000
set_option maxRecDepth 100000
open Go.RowKit
set_option linter.unusedVariables false
set_option maxHeartbeats 400000 in
theorem clone64_row {w : World} {lo : Nat} {A : Option Addr} {n c : Nat} {xs : List Int} (h : IS .u64 lo w A n c xs) (hn : n ≤ 65536) :
    Calls Tryz.prog 76 #[.slice A n c] w (RetR .u64 37 n xs w) := by
  obtain ⟨i0, hi, hz0, hz1, hz2⟩ := info_parts clone64_info
  have q : ∀ (w : World) (a : Option Addr) (n c n' c' : Nat), (binOp .eql 38 (.slice a n c) (.slice none n' c')).run Tryz.prog w = .ok (.bool a.isNone) w := fun w a n c n' c' => Lib.run_eql_slice_nil w _ _ a n c n' c' Tryz.underlying38
  rcases A with _ | ad
  · obtain rfl := h.nil_ rfl
    obtain rfl : n = 0 := by have := h.cap; omega
    obtain rfl : xs = [] := List.eq_nil_of_length_eq_zero h.len
    go_enter Tryz.func76, Tryz.ntmps76
    go_wp2
    go_ret
    exact ⟨_, _, rfl, Ri.nil _ _, Below.refl _ _⟩
  · have hr := fun ty => run_clone_row (P := Tryz.prog) Tryz.underlying38 hi hz0 hz1 (by omega) h hn ty
    clear hz0 hz1 hz2
    go_enter Tryz.func76, Tryz.ntmps76
    obtain ⟨A', c', w', hrun, hI, K⟩ := hr 38
    go_wp2_with (at_builtin; refine wpList_append_run rfl (.tmp 5) (.tmp 6) _ rfl _ _ _ _ rfl rfl hrun ?_)
    go_ret
    exact ⟨_, _, rfl, hI, K⟩
set_option maxHeartbeats 2000000 in
theorem own_seen {w : World} {lo : Nat} {h : Hd} {s : Sc} {l : Ls} (hL : Lists lo w h l) (h0 : h.n0 ≤ 65536) (h1 : h.n1 ≤ 65536) (h2 : h.n2 ≤ 65536) (h3 : h.n3 ≤ 65536) :
    Calls Tryz.prog 40 #[.agg (opv h s)] w (RetOwnS h s l w) := by
  rcases s with ⟨kind, addr, err, aad, used, phase, shard, sought, leaf, bit, word, full, at_, tries, item, stamp⟩
  rcases h with ⟨A0, n0, c0, A1, n1, c1, A2, n2, c2, A3, n3, c3⟩
  try dsimp only at *
  go_enter Tryz.func40, Tryz.ntmps40
  go_upto_region 1 with (fail)
  have L := Loc.start w
  replace L := ((L).alloc (opv ⟨A0, n0, c0, A1, n1, c1, A2, n2, c2, A3, n3, c3⟩ ⟨kind, addr, err, aad, used, phase, shard, sought, leaf, bit, word, full, at_, tries, item, stamp⟩) 40).alloc #[.int .i64 0, .int .u32 0, .slice none 0 0, .int .i64 0, .int .u32 0, .bool false, .slice none 0 0, .slice none 0 0, .int .i64 0, .int .i64 0, .int .i64 0, .int .i64 0, .int .i64 0, .int .u64 0, .bool false, .slice none 0 0, .int .i64 0, .int .i64 0, .int .i64 0, .int .i64 0] 40
  try simp only [World.size_alloc] at L
  replace L := L.is 0 (opv hd0 sc0) rfl
  try dsimp only [nput] at L
  generalize ((w).alloc (.cells (opv ⟨A0, n0, c0, A1, n1, c1, A2, n2, c2, A3, n3, c3⟩ ⟨kind, addr, err, aad, used, phase, shard, sought, leaf, bit, word, full, at_, tries, item, stamp⟩) 40)).alloc (.cells #[.int .i64 0, .int .u32 0, .slice none 0 0, .int .i64 0, .int .u32 0, .bool false, .slice none 0 0, .slice none 0 0, .int .i64 0, .int .i64 0, .int .i64 0, .int .i64 0, .int .i64 0, .int .u64 0, .bool false, .slice none 0 0, .int .i64 0, .int .i64 0, .int .i64 0, .int .i64 0] 40) = w1 at L ⊢
  generalize w.heap.size + 1 = gR at L ⊢
  generalize w.heap.size = gO at L ⊢
  have O_2 := L.at_ 1 2 rfl (v := .slice A0 n0 c0) rfl
  have O_z := L.lt 1 rfl
  go_wp2_with fail
  have KSi0 := L.K.size
  refine (clone32_any (hL.i0.below L.K) h0).mono ?_
  rintro e w2 ⟨A0', c0', rfl, I', K'⟩
  clear O_2 O_z
  have Lb := L.lts
  replace L := L.over K'
  replace L := L.is_new Lb I'
  clear Lb
  try dsimp only [lF, List.cons_append, List.nil_append] at L
  clear I'
  have O_2 := L.at_ 1 2 rfl (v := .slice A0 n0 c0) rfl
  have O_z := L.lt 1 rfl
  have O_f2 := L.fz 1 2 rfl
  go_upto_region 2 with fail
  clear O_2 O_z O_f2
  replace L := ((L.set 1 2 rfl (.slice A0' n0 c0')).is 1 (opv ⟨A0', n0, c0', A1, n1, c1, A2, n2, c2, A3, n3, c3⟩ ⟨kind, addr, err, aad, used, phase, shard, sought, leaf, bit, word, full, at_, tries, item, stamp⟩) rfl)
  try dsimp only [nput] at L
  generalize (w2).setCell ⟨gO, 2, none⟩ (.slice A0' n0 c0') = w3 at L ⊢
  have O_6 := L.at_ 1 6 rfl (v := .slice A1 n1 c1) rfl
  have O_z := L.lt 1 rfl
  go_wp2_with fail
  have KSi1 := L.K.size
  refine (clone32_any (hL.i1.below L.K) h1).mono ?_
  rintro e w4 ⟨A1', c1', rfl, I', K'⟩
  clear O_6 O_z
  have Lb := L.lts
  replace L := L.over K'
  replace L := L.is_new Lb I'
  clear Lb
  try dsimp only [lF, List.cons_append, List.nil_append] at L
  clear I'
  have O_6 := L.at_ 1 6 rfl (v := .slice A1 n1 c1) rfl
  have O_z := L.lt 1 rfl
  have O_f6 := L.fz 1 6 rfl
  go_upto_region 3 with fail
  clear O_6 O_z O_f6
  replace L := ((L.set 1 6 rfl (.slice A1' n1 c1')).is 1 (opv ⟨A0', n0, c0', A1', n1, c1', A2, n2, c2, A3, n3, c3⟩ ⟨kind, addr, err, aad, used, phase, shard, sought, leaf, bit, word, full, at_, tries, item, stamp⟩) rfl)
  try dsimp only [nput] at L
  generalize (w4).setCell ⟨gO, 6, none⟩ (.slice A1' n1 c1') = w5 at L ⊢
  have O_7 := L.at_ 1 7 rfl (v := .slice A2 n2 c2) rfl
  have O_z := L.lt 1 rfl
  go_wp2_with fail
  have KSi2 := L.K.size
  refine (cloneE_any (hL.i2.below L.K) h2).mono ?_
  rintro e w6 ⟨A2', c2', rfl, I', K'⟩
  clear O_7 O_z
  have Lb := L.lts
  replace L := L.over K'
  replace L := L.is_new Lb I'
  clear Lb
  try dsimp only [lF, List.cons_append, List.nil_append] at L
  clear I'
  have O_7 := L.at_ 1 7 rfl (v := .slice A2 n2 c2) rfl
  have O_z := L.lt 1 rfl
  have O_f7 := L.fz 1 7 rfl
  go_upto_region 4 with fail
  clear O_7 O_z O_f7
  replace L := ((L.set 1 7 rfl (.slice A2' n2 c2')).is 1 (opv ⟨A0', n0, c0', A1', n1, c1', A2', n2, c2', A3, n3, c3⟩ ⟨kind, addr, err, aad, used, phase, shard, sought, leaf, bit, word, full, at_, tries, item, stamp⟩) rfl)
  try dsimp only [nput] at L
  generalize (w6).setCell ⟨gO, 7, none⟩ (.slice A2' n2 c2') = w7 at L ⊢
  have O_15 := L.at_ 1 15 rfl (v := .slice A3 n3 c3) rfl
  have O_z := L.lt 1 rfl
  go_wp2_with fail
  have KSr3 := L.K.size
  have J0 := L.is_ 2 rfl
  have J1 := L.is_ 1 rfl
  have J2 := L.is_ 0 rfl
  refine (clone64_row (hL.i3.below L.K) h3).mono ?_
  rintro e w8 ⟨A3', c3', rfl, R', K'⟩
  clear O_15 O_z
  have Lb := L.lts
  replace L := L.over K'
  replace L := L.ri_new Lb R'
  clear Lb
  try dsimp only [lF, List.cons_append, List.nil_append] at L
  have sep0 := R'.sep_old (lo' := w.heap.size) J0 (Nat.le_refl _)
  have sep1 := R'.sep_old (lo' := w.heap.size) J1 (Nat.le_refl _)
  have sep2 := R'.sep_old (lo' := w.heap.size) J2 (Nat.le_refl _)
  clear J0 J1 J2 R'
  have O_15 := L.at_ 1 15 rfl (v := .slice A3 n3 c3) rfl
  have O_z := L.lt 1 rfl
  have O_f15 := L.fz 1 15 rfl
  go_upto_region 5 with fail
  clear O_15 O_z O_f15
  replace L := ((L.set 1 15 rfl (.slice A3' n3 c3')).is 1 (opv ⟨A0', n0, c0', A1', n1, c1', A2', n2, c2', A3', n3, c3'⟩ ⟨kind, addr, err, aad, used, phase, shard, sought, leaf, bit, word, full, at_, tries, item, stamp⟩) rfl)
  try dsimp only [nput] at L
  generalize (w8).setCell ⟨gO, 15, none⟩ (.slice A3' n3 c3') = w9 at L ⊢
  go_wp2_with (first | (refine wpList_load_row rfl 40 (.tmp 1) rfl gO rfl _ _ (0, 0) _ (L.bk_ 1 rfl) Tryz.underlying40 rfl op_sz ?_) | (refine wpList_store_row rfl 40 (.tmp 2) (.tmp 25) rfl gR _ rfl rfl _ _ (L.bk_ 0 rfl) op_sz rfl (opv_one _ _) ?_))
  replace L := (L.row 0 rfl (opv ⟨A0', n0, c0', A1', n1, c1', A2', n2, c2', A3', n3, c3'⟩ ⟨kind, addr, err, aad, used, phase, shard, sought, leaf, bit, word, full, at_, tries, item, stamp⟩))
  try dsimp only [nput] at L
  generalize (w9).setRow gR (opv ⟨A0', n0, c0', A1', n1, c1', A2', n2, c2', A3', n3, c3'⟩ ⟨kind, addr, err, aad, used, phase, shard, sought, leaf, bit, word, full, at_, tries, item, stamp⟩) = w10 at L ⊢
  refine bodyPost_ret (v := .agg (opv ⟨A0', n0, c0', A1', n1, c1', A2', n2, c2', A3', n3, c3'⟩ ⟨kind, addr, err, aad, used, phase, shard, sought, leaf, bit, word, full, at_, tries, item, stamp⟩)) ?_ rfl ?_
  · exact results_cell_row (fn := Tryz.f40) Tryz.results40 _ _ gR _ _ (0, 0) _ rfl (L.bk_ 0 rfl) Tryz.underlying40 rfl op_sz
  exact ⟨_, _, _, _, _, _, _, _, rfl, (L.is_ 3 rfl).lower KSi0, (L.is_ 2 rfl).lower KSi1, (L.is_ 1 rfl).lower KSi2, (L.ri_ 0 rfl).lower KSr3, sep0, sep1, sep2, L.K⟩
end Go.Proofs.YtghecdccdmeooaaGreat

/-
  What sweep.leaves, leave, anew, full and ends answer. Conditions: a block that may be.
-/
namespace Go.Proofs.YtghecdccdmeooaaGreat
set_option maxRecDepth 100000
set_option maxRecDepth 100000
open Go.RowKit
set_option linter.unusedVariables false
theorem results_ct {P : Program} {fn : Func} {q p : Tmp} {ty : TypeId} (h : fn.results = #[.cell p ty, .tmp q]) (tmps : Array Value) (w : World) (g : Nat) (t : TypeId) (cs : Array Value) (fr : Nat × Nat) (d : TypeDesc)
    (hp : tmps.getD p undef = .pointer (some ⟨g, 0, none⟩)) (hg : w.heap[g]? = some (.cells cs t fr))
    (hu : P.underlying ty = some d) (hd : (match d with | .struct _ | .array _ _ => true | _ => false) = true) (hi : (P.info? ty).map (·.size) = some cs.size) :
    (results fn tmps).run P w = .ok (.tuple #[.agg cs, tmps.getD q undef]) w := by
  have hp' : tmps[p]?.getD undef = .pointer (some ⟨g, 0, none⟩) := by simpa using hp
  simp [results, h, hp', asAddr, run_loadVar_row w g t ty cs fr d hg hu hd hi]
section
variable {w w1 : World} {lo gPR gPO gPH a M m d tt : Nat} {p sh wo qu tr ph : Int} {A B : Option Addr} {n c : Nat} {sn ys : List Nat} {h : Hd} {s : Sc} {l : Ls}
set_option maxHeartbeats 2000000 in
theorem swlv_any (ha : a < 4294967296) (hM : Much a p M) :
    Calls Tryz.prog 123 #[.agg #[.int .u32 (a : Int), .int .i64 p, .slice A n c, .int .i64 sh, .int .i64 wo, .int .i64 qu, .int .i64 tr]] w (fun e w' => e = .returned (.int .i64 ((lv M : Nat) : Int)) ∧ Below w.heap.size w w') := by
  have TM := fun w => Lib.hid (many_yes (w := w) ha hM)
  have TV := fun w => Lib.hid (leaves_any M hM.most w)
  generalize lv M = Lv at TV ⊢
  clear hM ha
  go_enter Tryz.func123, Tryz.ntmps123
  go_upto_region 1 with (fail)
  have L := Loc.start w
  replace L := (L).alloc #[.int .u32 (a : Int), .int .i64 p, .slice A n c, .int .i64 sh, .int .i64 wo, .int .i64 qu, .int .i64 tr] 27
  try simp only [World.size_alloc] at L
  try dsimp only [nput] at L
  generalize (w).alloc (.cells #[.int .u32 (a : Int), .int .i64 p, .slice A n c, .int .i64 sh, .int .i64 wo, .int .i64 qu, .int .i64 tr] 27) = w1 at L ⊢
  generalize w.heap.size = gH at L ⊢
  have H_0 := L.at_ 0 0 rfl (v := .int .u32 (a : Int)) rfl
  have H_1 := L.at_ 0 1 rfl (v := .int .i64 p) rfl
  have H_z := L.lt 0 rfl
  go_wp2_with fail
  refine ((TM _).out).mono ?_
  rintro e w2 ⟨rfl, K'⟩
  clear H_0 H_1 H_z
  replace L := L.over K'
  go_wp2_with fail
  refine ((TV _).out).mono ?_
  rintro e w' ⟨rfl, rfl⟩
  go_wp2
  go_ret
  exact ⟨rfl, L.K⟩
set_option maxHeartbeats 2000000 in
theorem leave_any (ph : Int) :
    Calls Tryz.prog 122 #[.agg (opv h s), .int .i64 ph] w (RetOp (swH h) (swLe s ph) w) := by
  rcases s with ⟨kind, addr, err, aad, used, phase, shard, sought, leaf, bit, word, full, at_, tries, item, stamp⟩
  rcases h with ⟨A0, n0, c0, A1, n1, c1, A2, n2, c2, A3, n3, c3⟩
  try dsimp only at *
  go_enter Tryz.func122, Tryz.ntmps122
  go_upto_region 1 with (fail)
  have L := Loc.start w
  replace L := ((L).alloc (opv ⟨A0, n0, c0, A1, n1, c1, A2, n2, c2, A3, n3, c3⟩ ⟨kind, addr, err, aad, used, phase, shard, sought, leaf, bit, word, full, at_, tries, item, stamp⟩) 40).alloc #[.int .i64 0, .int .u32 0, .slice none 0 0, .int .i64 0, .int .u32 0, .bool false, .slice none 0 0, .slice none 0 0, .int .i64 0, .int .i64 0, .int .i64 0, .int .i64 0, .int .i64 0, .int .u64 0, .bool false, .slice none 0 0, .int .i64 0, .int .i64 0, .int .i64 0, .int .i64 0] 40
  try simp only [World.size_alloc] at L
  replace L := L.is 0 (opv hd0 sc0) rfl
  try dsimp only [nput] at L
  generalize ((w).alloc (.cells (opv ⟨A0, n0, c0, A1, n1, c1, A2, n2, c2, A3, n3, c3⟩ ⟨kind, addr, err, aad, used, phase, shard, sought, leaf, bit, word, full, at_, tries, item, stamp⟩) 40)).alloc (.cells #[.int .i64 0, .int .u32 0, .slice none 0 0, .int .i64 0, .int .u32 0, .bool false, .slice none 0 0, .slice none 0 0, .int .i64 0, .int .i64 0, .int .i64 0, .int .i64 0, .int .i64 0, .int .u64 0, .bool false, .slice none 0 0, .int .i64 0, .int .i64 0, .int .i64 0, .int .i64 0] 40) = w1 at L ⊢
  generalize w.heap.size + 1 = gR at L ⊢
  generalize w.heap.size = gO at L ⊢
  have O_8 := L.at_ 1 8 rfl (v := .int .i64 phase) rfl
  have O_16 := L.at_ 1 16 rfl (v := .int .i64 at_) rfl
  have O_15 := L.at_ 1 15 rfl (v := .slice A3 n3 c3) rfl
  have O_z := L.lt 1 rfl
  have O_f8 := L.fz 1 8 rfl
  have O_f16 := L.fz 1 16 rfl
  have O_f15 := L.fz 1 15 rfl
  go_upto_region 2 with fail
  clear O_8 O_16 O_15 O_z O_f8 O_f16 O_f15
  replace L := ((((L.set 1 8 rfl (.int .i64 ph)).set 1 16 rfl (.int .i64 0)).set 1 15 rfl (.slice none 0 0)).is 1 (opv ⟨A0, n0, c0, A1, n1, c1, A2, n2, c2, none, 0, 0⟩ ⟨kind, addr, err, aad, used, ph, shard, sought, leaf, bit, word, full, 0, tries, item, stamp⟩) rfl)
  try dsimp only [nput] at L
  generalize (((w1).setCell ⟨gO, 8, none⟩ (.int .i64 ph)).setCell ⟨gO, 16, none⟩ (.int .i64 0)).setCell ⟨gO, 15, none⟩ (.slice none 0 0) = w2 at L ⊢
  go_wp2_with (first | (refine wpList_load_row rfl 40 (.tmp 2) rfl gO rfl _ _ (0, 0) _ (L.bk_ 1 rfl) Tryz.underlying40 rfl op_sz ?_) | (refine wpList_store_row rfl 40 (.tmp 4) (.tmp 9) rfl gR _ rfl rfl _ _ (L.bk_ 0 rfl) op_sz rfl (opv_one _ _) ?_))
  replace L := (L.row 0 rfl (opv ⟨A0, n0, c0, A1, n1, c1, A2, n2, c2, none, 0, 0⟩ ⟨kind, addr, err, aad, used, ph, shard, sought, leaf, bit, word, full, 0, tries, item, stamp⟩))
  try dsimp only [nput] at L
  generalize (w2).setRow gR (opv ⟨A0, n0, c0, A1, n1, c1, A2, n2, c2, none, 0, 0⟩ ⟨kind, addr, err, aad, used, ph, shard, sought, leaf, bit, word, full, 0, tries, item, stamp⟩) = w3 at L ⊢
  refine bodyPost_ret (v := .agg (opv ⟨A0, n0, c0, A1, n1, c1, A2, n2, c2, none, 0, 0⟩ ⟨kind, addr, err, aad, used, ph, shard, sought, leaf, bit, word, full, 0, tries, item, stamp⟩)) ?_ rfl ?_
  · exact results_cell_row (fn := Tryz.f122) Tryz.results122 _ _ gR _ _ (0, 0) _ rfl (L.bk_ 0 rfl) Tryz.underlying40 rfl op_sz
  exact ⟨rfl, L.K⟩
set_option maxHeartbeats 2000000 in
theorem anew_any :
    Calls Tryz.prog 136 #[.agg (opv h s)] w (RetOp (swH h) (swLe s 6) w) := by
  rcases s with ⟨kind, addr, err, aad, used, phase, shard, sought, leaf, bit, word, full, at_, tries, item, stamp⟩
  rcases h with ⟨A0, n0, c0, A1, n1, c1, A2, n2, c2, A3, n3, c3⟩
  try dsimp only at *
  go_enter Tryz.func136, Tryz.ntmps136
  go_upto_region 1 with (fail)
  have L := Loc.start w
  replace L := ((L).alloc (opv ⟨A0, n0, c0, A1, n1, c1, A2, n2, c2, A3, n3, c3⟩ ⟨kind, addr, err, aad, used, phase, shard, sought, leaf, bit, word, full, at_, tries, item, stamp⟩) 40).alloc #[.int .i64 0, .int .u32 0, .slice none 0 0, .int .i64 0, .int .u32 0, .bool false, .slice none 0 0, .slice none 0 0, .int .i64 0, .int .i64 0, .int .i64 0, .int .i64 0, .int .i64 0, .int .u64 0, .bool false, .slice none 0 0, .int .i64 0, .int .i64 0, .int .i64 0, .int .i64 0] 40
  try simp only [World.size_alloc] at L
  replace L := L.is 0 (opv hd0 sc0) rfl
  try dsimp only [nput] at L
  generalize ((w).alloc (.cells (opv ⟨A0, n0, c0, A1, n1, c1, A2, n2, c2, A3, n3, c3⟩ ⟨kind, addr, err, aad, used, phase, shard, sought, leaf, bit, word, full, at_, tries, item, stamp⟩) 40)).alloc (.cells #[.int .i64 0, .int .u32 0, .slice none 0 0, .int .i64 0, .int .u32 0, .bool false, .slice none 0 0, .slice none 0 0, .int .i64 0, .int .i64 0, .int .i64 0, .int .i64 0, .int .i64 0, .int .u64 0, .bool false, .slice none 0 0, .int .i64 0, .int .i64 0, .int .i64 0, .int .i64 0] 40) = w1 at L ⊢
  generalize w.heap.size + 1 = gR at L ⊢
  generalize w.heap.size = gO at L ⊢
  go_wp2_with (refine wpList_load_row rfl 40 (.tmp 1) rfl gO rfl _ _ (0, 0) _ (L.bk_ 1 rfl) Tryz.underlying40 rfl op_sz ?_)
  refine (leave_any 6).mono ?_
  rintro e w2 ⟨rfl, K'⟩
  replace L := L.over K'
  go_wp2_with (refine wpList_store_row rfl 40 (.tmp 2) (.tmp 4) rfl gR _ rfl rfl _ _ (L.bk_ 0 rfl) op_sz rfl (opv_one _ _) ?_)
  replace L := (L.row 0 rfl (opv (swH ⟨A0, n0, c0, A1, n1, c1, A2, n2, c2, A3, n3, c3⟩) (swLe ⟨kind, addr, err, aad, used, phase, shard, sought, leaf, bit, word, full, at_, tries, item, stamp⟩ 6)))
  try dsimp only [nput] at L
  generalize (w2).setRow gR (opv (swH ⟨A0, n0, c0, A1, n1, c1, A2, n2, c2, A3, n3, c3⟩) (swLe ⟨kind, addr, err, aad, used, phase, shard, sought, leaf, bit, word, full, at_, tries, item, stamp⟩ 6)) = w3 at L ⊢
  refine bodyPost_ret (v := .agg (opv (swH ⟨A0, n0, c0, A1, n1, c1, A2, n2, c2, A3, n3, c3⟩) (swLe ⟨kind, addr, err, aad, used, phase, shard, sought, leaf, bit, word, full, at_, tries, item, stamp⟩ 6))) ?_ rfl ?_
  · exact results_cell_row (fn := Tryz.f136) Tryz.results136 _ _ gR _ _ (0, 0) _ rfl (L.bk_ 0 rfl) Tryz.underlying40 rfl op_sz
  exact ⟨rfl, L.K⟩
set_option maxHeartbeats 2000000 in
theorem full_not :
    Calls Tryz.prog 120 #[.agg #[.int .u32 (a : Int), .int .i64 p, .slice A n c, .int .i64 sh, .int .i64 wo, .int .i64 qu, .int .i64 tr], .agg (opv h s), .bool false] w (fun e w' => e = .returned (.tuple #[.agg (opv (swH h) (swLe s 6)), .bool false]) ∧ Below w.heap.size w w') := by
  rcases s with ⟨kind, addr, err, aad, used, phase, shard, sought, leaf, bit, word, full, at_, tries, item, stamp⟩
  rcases h with ⟨A0, n0, c0, A1, n1, c1, A2, n2, c2, A3, n3, c3⟩
  try dsimp only at *
  go_enter Tryz.func120, Tryz.ntmps120
  go_upto_region 1 with (fail)
  have L := Loc.start w
  replace L := (((L).alloc #[.int .u32 (a : Int), .int .i64 p, .slice A n c, .int .i64 sh, .int .i64 wo, .int .i64 qu, .int .i64 tr] 27).alloc (opv ⟨A0, n0, c0, A1, n1, c1, A2, n2, c2, A3, n3, c3⟩ ⟨kind, addr, err, aad, used, phase, shard, sought, leaf, bit, word, full, at_, tries, item, stamp⟩) 40).alloc #[.int .i64 0, .int .u32 0, .slice none 0 0, .int .i64 0, .int .u32 0, .bool false, .slice none 0 0, .slice none 0 0, .int .i64 0, .int .i64 0, .int .i64 0, .int .i64 0, .int .i64 0, .int .u64 0, .bool false, .slice none 0 0, .int .i64 0, .int .i64 0, .int .i64 0, .int .i64 0] 40
  try simp only [World.size_alloc] at L
  replace L := L.is 0 (opv hd0 sc0) rfl
  try dsimp only [nput] at L
  generalize (((w).alloc (.cells #[.int .u32 (a : Int), .int .i64 p, .slice A n c, .int .i64 sh, .int .i64 wo, .int .i64 qu, .int .i64 tr] 27)).alloc (.cells (opv ⟨A0, n0, c0, A1, n1, c1, A2, n2, c2, A3, n3, c3⟩ ⟨kind, addr, err, aad, used, phase, shard, sought, leaf, bit, word, full, at_, tries, item, stamp⟩) 40)).alloc (.cells #[.int .i64 0, .int .u32 0, .slice none 0 0, .int .i64 0, .int .u32 0, .bool false, .slice none 0 0, .slice none 0 0, .int .i64 0, .int .i64 0, .int .i64 0, .int .i64 0, .int .i64 0, .int .u64 0, .bool false, .slice none 0 0, .int .i64 0, .int .i64 0, .int .i64 0, .int .i64 0] 40) = w1 at L ⊢
  generalize w.heap.size + 1 + 1 = gR at L ⊢
  generalize w.heap.size + 1 = gO at L ⊢
  generalize w.heap.size = gH at L ⊢
  go_wp2_with (refine wpList_load_row rfl 40 (.tmp 4) rfl gO rfl _ _ (0, 0) _ (L.bk_ 1 rfl) Tryz.underlying40 rfl op_sz ?_)
  refine (anew_any).mono ?_
  rintro e w2 ⟨rfl, K'⟩
  replace L := L.over K'
  go_wp2_with (refine wpList_store_row rfl 40 (.tmp 6) (.tmp 11) rfl gR _ rfl rfl _ _ (L.bk_ 0 rfl) op_sz rfl (opv_one _ _) ?_)
  replace L := (L.row 0 rfl (opv (swH ⟨A0, n0, c0, A1, n1, c1, A2, n2, c2, A3, n3, c3⟩) (swLe ⟨kind, addr, err, aad, used, phase, shard, sought, leaf, bit, word, full, at_, tries, item, stamp⟩ 6)))
  try dsimp only [nput] at L
  generalize (w2).setRow gR (opv (swH ⟨A0, n0, c0, A1, n1, c1, A2, n2, c2, A3, n3, c3⟩) (swLe ⟨kind, addr, err, aad, used, phase, shard, sought, leaf, bit, word, full, at_, tries, item, stamp⟩ 6)) = w3 at L ⊢
  refine bodyPost_ret (v := .tuple #[.agg (opv (swH ⟨A0, n0, c0, A1, n1, c1, A2, n2, c2, A3, n3, c3⟩) (swLe ⟨kind, addr, err, aad, used, phase, shard, sought, leaf, bit, word, full, at_, tries, item, stamp⟩ 6)), .bool false]) ?_ rfl ?_
  · exact results_ct (fn := Tryz.f120) Tryz.results120 _ _ gR _ _ (0, 0) _ rfl (L.bk_ 0 rfl) Tryz.underlying40 rfl op_sz
  exact ⟨rfl, L.K⟩
set_option maxHeartbeats 2000000 in
theorem full_yes :
    Calls Tryz.prog 120 #[.agg #[.int .u32 (a : Int), .int .i64 p, .slice A n c, .int .i64 sh, .int .i64 wo, .int .i64 qu, .int .i64 tr], .agg (opv h s), .bool true] w (fun e w' => e = .returned (.tuple #[.agg (opv (swH h) (swEn s)), .bool true]) ∧ Below w.heap.size w w') := by
  rcases s with ⟨kind, addr, err, aad, used, phase, shard, sought, leaf, bit, word, full, at_, tries, item, stamp⟩
  rcases h with ⟨A0, n0, c0, A1, n1, c1, A2, n2, c2, A3, n3, c3⟩
  try dsimp only at *
  go_enter Tryz.func120, Tryz.ntmps120
  go_upto_region 1 with (fail)
  have L := Loc.start w
  replace L := (((L).alloc #[.int .u32 (a : Int), .int .i64 p, .slice A n c, .int .i64 sh, .int .i64 wo, .int .i64 qu, .int .i64 tr] 27).alloc (opv ⟨A0, n0, c0, A1, n1, c1, A2, n2, c2, A3, n3, c3⟩ ⟨kind, addr, err, aad, used, phase, shard, sought, leaf, bit, word, full, at_, tries, item, stamp⟩) 40).alloc #[.int .i64 0, .int .u32 0, .slice none 0 0, .int .i64 0, .int .u32 0, .bool false, .slice none 0 0, .slice none 0 0, .int .i64 0, .int .i64 0, .int .i64 0, .int .i64 0, .int .i64 0, .int .u64 0, .bool false, .slice none 0 0, .int .i64 0, .int .i64 0, .int .i64 0, .int .i64 0] 40
  try simp only [World.size_alloc] at L
  replace L := L.is 0 (opv hd0 sc0) rfl
  try dsimp only [nput] at L
  generalize (((w).alloc (.cells #[.int .u32 (a : Int), .int .i64 p, .slice A n c, .int .i64 sh, .int .i64 wo, .int .i64 qu, .int .i64 tr] 27)).alloc (.cells (opv ⟨A0, n0, c0, A1, n1, c1, A2, n2, c2, A3, n3, c3⟩ ⟨kind, addr, err, aad, used, phase, shard, sought, leaf, bit, word, full, at_, tries, item, stamp⟩) 40)).alloc (.cells #[.int .i64 0, .int .u32 0, .slice none 0 0, .int .i64 0, .int .u32 0, .bool false, .slice none 0 0, .slice none 0 0, .int .i64 0, .int .i64 0, .int .i64 0, .int .i64 0, .int .i64 0, .int .u64 0, .bool false, .slice none 0 0, .int .i64 0, .int .i64 0, .int .i64 0, .int .i64 0] 40) = w1 at L ⊢
  generalize w.heap.size + 1 + 1 = gR at L ⊢
  generalize w.heap.size + 1 = gO at L ⊢
  generalize w.heap.size = gH at L ⊢
  have O_3 := L.at_ 1 3 rfl (v := .int .i64 err) rfl
  have O_z := L.lt 1 rfl
  have O_f3 := L.fz 1 3 rfl
  go_upto_region 4 with fail
  clear O_3 O_z O_f3
  replace L := ((L.set 1 3 rfl (.int .i64 9)).is 1 (opv ⟨A0, n0, c0, A1, n1, c1, A2, n2, c2, A3, n3, c3⟩ ⟨kind, addr, 9, aad, used, phase, shard, sought, leaf, bit, word, full, at_, tries, item, stamp⟩) rfl)
  try dsimp only [nput] at L
  generalize (w1).setCell ⟨gO, 3, none⟩ (.int .i64 9) = w2 at L ⊢
  go_wp2_with (refine wpList_load_row rfl 40 (.tmp 4) rfl gO rfl _ _ (0, 0) _ (L.bk_ 1 rfl) Tryz.underlying40 rfl op_sz ?_)
  refine (leave_any 0).mono ?_
  rintro e w3 ⟨rfl, K'⟩
  replace L := L.over K'
  go_wp2_with (refine wpList_store_row rfl 40 (.tmp 6) (.tmp 15) rfl gR _ rfl rfl _ _ (L.bk_ 0 rfl) op_sz rfl (opv_one _ _) ?_)
  replace L := (L.row 0 rfl (opv (swH ⟨A0, n0, c0, A1, n1, c1, A2, n2, c2, A3, n3, c3⟩) (swLe ⟨kind, addr, 9, aad, used, phase, shard, sought, leaf, bit, word, full, at_, tries, item, stamp⟩ 0)))
  try dsimp only [nput] at L
  generalize (w3).setRow gR (opv (swH ⟨A0, n0, c0, A1, n1, c1, A2, n2, c2, A3, n3, c3⟩) (swLe ⟨kind, addr, 9, aad, used, phase, shard, sought, leaf, bit, word, full, at_, tries, item, stamp⟩ 0)) = w4 at L ⊢
  refine bodyPost_ret (v := .tuple #[.agg (opv (swH ⟨A0, n0, c0, A1, n1, c1, A2, n2, c2, A3, n3, c3⟩) (swLe ⟨kind, addr, 9, aad, used, phase, shard, sought, leaf, bit, word, full, at_, tries, item, stamp⟩ 0)), .bool true]) ?_ rfl ?_
  · exact results_ct (fn := Tryz.f120) Tryz.results120 _ _ gR _ _ (0, 0) _ rfl (L.bk_ 0 rfl) Tryz.underlying40 rfl op_sz
  exact ⟨rfl, L.K⟩
end
theorem sen_z (w : World) : (zeroValue 115).run Tryz.prog w = .ok .nilFunc w := by kernel_rfl
abbrev sen_l : List (Int × Nat) := [(6, 121), (1, 120)]
theorem sen_any (w : World) :
    Calls Tryz.prog 99 #[] w fun e w' => ∃ gm, e = .returned (.map (some gm)) ∧ FMap w' gm sen_l ∧ w.heap.size ≤ gm ∧ Below w.heap.size w w' := by
  have hmm := @run_makeMap Tryz.prog
  have O0 : FMap (w.alloc (.map #[] 0)) w.heap.size [] := World.ownsMap_made w Tryz.prog 3 fnElem
  have K0 := below_alloc w (.map #[] 0)
  go_enter Tryz.func99, Tryz.ntmps99
  obtain ⟨w1, H1, O1, G1⟩ := O0.put Tryz.underlying117 (by decide) 1 120 (by decide)
  obtain ⟨w2, H2, O2, G2⟩ := O1.put Tryz.underlying117 (by decide) 6 121 (by decide)
  go_wp2
  have K1 := K0.grown G1 (Nat.le_trans (Nat.le_refl _) K0.size) (by intro j hj; injection hj with hj; omega)
  have K2 := K1.grown G2 (Nat.le_trans (Nat.le_refl _) K1.size) (by intro j hj; injection hj with hj; omega)
  go_ret
  exact ⟨_, rfl, O2, Nat.le_refl _, K2⟩
end Go.Proofs.YtghecdccdmeooaaGreat

/-
  What sweep.first answers of a Grant. Conditions: a block that may be, a leaf that there is.
-/
namespace Go.Proofs.YtghecdccdmeooaaGreat
set_option maxRecDepth 100000
set_option maxRecDepth 100000
open Go.RowKit
set_option linter.unusedVariables false
section
variable {w w1 : World} {lo gPR gPO gPH a M m d tt : Nat} {p sh wo qu tr ph : Int} {A B : Option Addr} {n c : Nat} {sn ys : List Nat} {h : Hd} {s : Sc} {l : Ls}
set_option maxHeartbeats 2000000 in
theorem sfirst_found (hU : US w B m d ys) (hat : s.at_ = (tt : Int)) (hlm : tt < m) (hk : s.kind = 1) (hb : fb (gt ys tt) 32 = true) :
    Calls Tryz.prog 100 #[.agg #[.int .u32 (a : Int), .int .i64 p, .slice A n c, .int .i64 sh, .int .i64 wo, .int .i64 qu, .int .i64 tr], .slice B m d, .agg (opv h s)] w (RetOp (swH h) (swFc s (gt ys tt) (fi (gt ys tt) 32)) w) := by
  have TL := fun w (U : US w B m d ys) => Lib.hid (load_nat U tt hlm)
  have TF := fun w => Lib.hid (wfirst_any (gt ys tt) (gt_lt hU.fit tt) w)
  simp only [hb] at TF
  generalize fi (gt ys tt) 32 = f at TF ⊢
  clear hb
  generalize gt ys tt = x at TL TF ⊢
  rcases s with ⟨kind, addr, err, aad, used, phase, shard, sought, leaf, bit, word, full, at_, tries, item, stamp⟩
  rcases h with ⟨A0, n0, c0, A1, n1, c1, A2, n2, c2, A3, n3, c3⟩
  try dsimp only at *
  subst hk hat
  go_enter Tryz.func100, Tryz.ntmps100
  go_upto_region 1 with (fail)
  have L := Loc.start w
  replace L := (((L).alloc #[.int .u32 (a : Int), .int .i64 p, .slice A n c, .int .i64 sh, .int .i64 wo, .int .i64 qu, .int .i64 tr] 27).alloc (opv ⟨A0, n0, c0, A1, n1, c1, A2, n2, c2, A3, n3, c3⟩ ⟨1, addr, err, aad, used, phase, shard, sought, leaf, bit, word, full, (tt : Int), tries, item, stamp⟩) 40).alloc #[.int .i64 0, .int .u32 0, .slice none 0 0, .int .i64 0, .int .u32 0, .bool false, .slice none 0 0, .slice none 0 0, .int .i64 0, .int .i64 0, .int .i64 0, .int .i64 0, .int .i64 0, .int .u64 0, .bool false, .slice none 0 0, .int .i64 0, .int .i64 0, .int .i64 0, .int .i64 0] 40
  try simp only [World.size_alloc] at L
  replace L := L.is 0 (opv hd0 sc0) rfl
  try dsimp only [nput] at L
  generalize (((w).alloc (.cells #[.int .u32 (a : Int), .int .i64 p, .slice A n c, .int .i64 sh, .int .i64 wo, .int .i64 qu, .int .i64 tr] 27)).alloc (.cells (opv ⟨A0, n0, c0, A1, n1, c1, A2, n2, c2, A3, n3, c3⟩ ⟨1, addr, err, aad, used, phase, shard, sought, leaf, bit, word, full, (tt : Int), tries, item, stamp⟩) 40)).alloc (.cells #[.int .i64 0, .int .u32 0, .slice none 0 0, .int .i64 0, .int .u32 0, .bool false, .slice none 0 0, .slice none 0 0, .int .i64 0, .int .i64 0, .int .i64 0, .int .i64 0, .int .i64 0, .int .u64 0, .bool false, .slice none 0 0, .int .i64 0, .int .i64 0, .int .i64 0, .int .i64 0] 40) = w1 at L ⊢
  generalize w.heap.size + 1 + 1 = gR at L ⊢
  generalize w.heap.size + 1 = gO at L ⊢
  generalize w.heap.size = gH at L ⊢
  have O_16 := L.at_ 1 16 rfl (v := .int .i64 (tt : Int)) rfl
  have O_z := L.lt 1 rfl
  go_wp2_with fail
  refine ((TL _ (hU.below L.K)).out).mono ?_
  rintro e w' ⟨rfl, rfl⟩
  clear O_16 O_z
  go_wp2_with fail
  refine ((TF _).out).mono ?_
  rintro e w' ⟨rfl, rfl⟩
  have O_0 := L.at_ 1 0 rfl (v := .int .i64 1) rfl
  have O_16 := L.at_ 1 16 rfl (v := .int .i64 (tt : Int)) rfl
  have O_11 := L.at_ 1 11 rfl (v := .int .i64 leaf) rfl
  have O_13 := L.at_ 1 13 rfl (v := .int .u64 ((word : Nat) : Int)) rfl
  have O_12 := L.at_ 1 12 rfl (v := .int .i64 bit) rfl
  have O_z := L.lt 1 rfl
  have O_f11 := L.fz 1 11 rfl
  have O_f13 := L.fz 1 13 rfl
  have O_f12 := L.fz 1 12 rfl
  go_upto_region 5 with fail
  clear O_0 O_16 O_11 O_13 O_12 O_z O_f11 O_f13 O_f12
  replace L := ((((L.set 1 11 rfl (.int .i64 (tt : Int))).set 1 13 rfl (.int .u64 ((x : Nat) : Int))).set 1 12 rfl (.int .i64 (f : Int))).is 1 (opv ⟨A0, n0, c0, A1, n1, c1, A2, n2, c2, A3, n3, c3⟩ ⟨1, addr, err, aad, used, phase, shard, sought, (tt : Int), (f : Int), x, full, (tt : Int), tries, item, stamp⟩) rfl)
  try dsimp only [nput] at L
  generalize (((w1).setCell ⟨gO, 11, none⟩ (.int .i64 (tt : Int))).setCell ⟨gO, 13, none⟩ (.int .u64 ((x : Nat) : Int))).setCell ⟨gO, 12, none⟩ (.int .i64 (f : Int)) = w2 at L ⊢
  go_wp2_with (refine wpList_load_row rfl 40 (.tmp 5) rfl gO rfl _ _ (0, 0) _ (L.bk_ 1 rfl) Tryz.underlying40 rfl op_sz ?_)
  refine (leave_any 3).mono ?_
  rintro e w3 ⟨rfl, K'⟩
  replace L := L.over K'
  go_wp2_with (refine wpList_store_row rfl 40 (.tmp 6) (.tmp 34) rfl gR _ rfl rfl _ _ (L.bk_ 0 rfl) op_sz rfl (opv_one _ _) ?_)
  replace L := (L.row 0 rfl (opv (swH ⟨A0, n0, c0, A1, n1, c1, A2, n2, c2, A3, n3, c3⟩) (swLe ⟨1, addr, err, aad, used, phase, shard, sought, (tt : Int), (f : Int), x, full, (tt : Int), tries, item, stamp⟩ 3)))
  try dsimp only [nput] at L
  generalize (w3).setRow gR (opv (swH ⟨A0, n0, c0, A1, n1, c1, A2, n2, c2, A3, n3, c3⟩) (swLe ⟨1, addr, err, aad, used, phase, shard, sought, (tt : Int), (f : Int), x, full, (tt : Int), tries, item, stamp⟩ 3)) = w4 at L ⊢
  refine bodyPost_ret (v := .agg (opv (swH ⟨A0, n0, c0, A1, n1, c1, A2, n2, c2, A3, n3, c3⟩) (swLe ⟨1, addr, err, aad, used, phase, shard, sought, (tt : Int), (f : Int), x, full, (tt : Int), tries, item, stamp⟩ 3))) ?_ rfl ?_
  · exact results_cell_row (fn := Tryz.f100) Tryz.results100 _ _ gR _ _ (0, 0) _ rfl (L.bk_ 0 rfl) Tryz.underlying40 rfl op_sz
  exact ⟨rfl, L.K⟩
set_option maxHeartbeats 2000000 in
theorem sfirst_mv (ha : a < 4294967296) (hM : Much a p M) (L : Loc w w1 [(gPR, 40, opv hd0 sc0), (gPO, 40, opv h s), (gPH, 27, #[.int .u32 (a : Int), .int .i64 p, .slice A n c, .int .i64 sh, .int .i64 wo, .int .i64 qu, .int .i64 tr])] [rF .u64 37 lo h.A3 h.n3 h.c3 l.ses, iF .u32 lo h.A0 h.n0 h.c0 l.rqs, iF .u32 lo h.A1 h.n1 h.c1 l.ads, iF .i64 lo h.A2 h.n2 h.c2 l.ers, zF lo]) (hs0 : SepF (.slice h.A3 h.n3 h.c3) (iF .u32 lo h.A0 h.n0 h.c0 l.rqs)) (hs1 : SepF (.slice h.A3 h.n3 h.c3) (iF .u32 lo h.A1 h.n1 h.c1 l.ads)) (hs2 : SepF (.slice h.A3 h.n3 h.c3) (iF .i64 lo h.A2 h.n2 h.c2 l.ers)) (hlo : w.heap.size ≤ lo) (hU : US w B m d ys) (hat : s.at_ = (tt : Int)) (hlm : tt < m) (hk : s.kind = 1) (hn3 : h.n3 ≤ 65000) (htl : tt < lv M) (hb : fb (gt ys tt) 32 = false) (hlt : tt + 1 < lv M) :
    Calls Tryz.prog 100 #[.agg #[.int .u32 (a : Int), .int .i64 p, .slice A n c, .int .i64 sh, .int .i64 wo, .int .i64 qu, .int .i64 tr], .slice B m d, .agg (opv h s)] w1 (RetSwL lo (swMv s) ⟨l.rqs, l.ads, l.ers, l.ses ++ [((gt ys tt : Nat) : Int)]⟩ gPR gPO gPH (opv h s) #[.int .u32 (a : Int), .int .i64 p, .slice A n c, .int .i64 sh, .int .i64 wo, .int .i64 qu, .int .i64 tr] w w1) := by
  obtain ⟨i0, hi, hz0, hz1, hz2⟩ := info_parts clone64_info
  have TV := fun w => Lib.hid (swlv_any (w := w) (sh := sh) (wo := wo) (qu := qu) (tr := tr) (A := A) (n := n) (c := c) ha hM)
  have e1 : IntKind.i64.wrap ((tt : Int) + 1) = (tt : Int) + 1 := IntWalk.i64_in _ (by have := lv_le hM.most; omega)
  generalize lv M = Lv at TV hlt htl
  have e2 : decide ((Lv : Int) ≤ (tt : Int) + 1) = false := by simp; omega
  have TL := fun w (U : US w B m d ys) => Lib.hid (load_nat U tt hlm)
  have TF := fun w => Lib.hid (wfirst_any (gt ys tt) (gt_lt hU.fit tt) w)
  simp only [hb] at TF
  generalize fi (gt ys tt) 32 = f at TF ⊢
  clear hb
  generalize gt ys tt = x at TL TF ⊢
  clear hlt htl ha hM
  rcases s with ⟨kind, addr, err, aad, used, phase, shard, sought, leaf, bit, word, full, at_, tries, item, stamp⟩
  rcases h with ⟨A0, n0, c0, A1, n1, c1, A2, n2, c2, A3, n3, c3⟩
  try dsimp only at *
  subst hk hat
  go_enter Tryz.func100, Tryz.ntmps100
  go_upto_region 1 with (fail)
  replace L := (((L).alloc #[.int .u32 (a : Int), .int .i64 p, .slice A n c, .int .i64 sh, .int .i64 wo, .int .i64 qu, .int .i64 tr] 27).alloc (opv ⟨A0, n0, c0, A1, n1, c1, A2, n2, c2, A3, n3, c3⟩ ⟨1, addr, err, aad, used, phase, shard, sought, leaf, bit, word, full, (tt : Int), tries, item, stamp⟩) 40).alloc #[.int .i64 0, .int .u32 0, .slice none 0 0, .int .i64 0, .int .u32 0, .bool false, .slice none 0 0, .slice none 0 0, .int .i64 0, .int .i64 0, .int .i64 0, .int .i64 0, .int .i64 0, .int .u64 0, .bool false, .slice none 0 0, .int .i64 0, .int .i64 0, .int .i64 0, .int .i64 0] 40
  try simp only [World.size_alloc] at L
  replace L := L.is 0 (opv hd0 sc0) rfl
  try dsimp only [nput] at L
  generalize (((w1).alloc (.cells #[.int .u32 (a : Int), .int .i64 p, .slice A n c, .int .i64 sh, .int .i64 wo, .int .i64 qu, .int .i64 tr] 27)).alloc (.cells (opv ⟨A0, n0, c0, A1, n1, c1, A2, n2, c2, A3, n3, c3⟩ ⟨1, addr, err, aad, used, phase, shard, sought, leaf, bit, word, full, (tt : Int), tries, item, stamp⟩) 40)).alloc (.cells #[.int .i64 0, .int .u32 0, .slice none 0 0, .int .i64 0, .int .u32 0, .bool false, .slice none 0 0, .slice none 0 0, .int .i64 0, .int .i64 0, .int .i64 0, .int .i64 0, .int .i64 0, .int .u64 0, .bool false, .slice none 0 0, .int .i64 0, .int .i64 0, .int .i64 0, .int .i64 0] 40) = w6 at L ⊢
  generalize w1.heap.size + 1 + 1 = gR at L ⊢
  generalize w1.heap.size + 1 = gO at L ⊢
  generalize w1.heap.size = gH at L ⊢
  have O_16 := L.at_ 1 16 rfl (v := .int .i64 (tt : Int)) rfl
  have O_z := L.lt 1 rfl
  go_wp2_with fail
  refine ((TL _ (hU.below L.K)).out).mono ?_
  rintro e w' ⟨rfl, rfl⟩
  clear O_16 O_z
  go_wp2_with fail
  refine ((TF _).out).mono ?_
  rintro e w' ⟨rfl, rfl⟩
  obtain ⟨AE, cE, wAE, hapE, LA⟩ := L.app1 (P := Tryz.prog) (x := ((x : Nat) : Int)) (SepL.cons hs0 (SepL.cons hs1 (SepL.cons hs2 (SepL.cons SepF.z SepL.nil)))) hlo (by omega) (L.sz_ 4 rfl) Tryz.underlying38 hi hz0 hz1 hz2 38
  have O_15 := L.at_ 1 15 rfl (v := .slice A3 n3 c3) rfl
  have O_z := L.lt 1 rfl
  have Oa_f15 := LA.fz 1 15 rfl
  have Oa_15 := LA.at_ 1 15 rfl (v := .slice A3 n3 c3) rfl
  have Oa_z15 := LA.lt 1 rfl
  go_upto_region 7 with (at_builtin; refine wpList_append_run rfl (.tmp 36) (.tmp 38) 38 rfl _ _ _ _ rfl rfl hapE ?_)
  clear O_15 O_z Oa_f15 Oa_15 Oa_z15
  replace L := ((LA.set 1 15 rfl (.slice AE (n3 + 1) cE)).is 1 (opv ⟨A0, n0, c0, A1, n1, c1, A2, n2, c2, AE, (n3 + 1), cE⟩ ⟨1, addr, err, aad, used, phase, shard, sought, leaf, bit, word, full, (tt : Int), tries, item, stamp⟩) rfl)
  clear LA hapE
  try dsimp only [nput] at L
  generalize (wAE).setCell ⟨gO, 15, none⟩ (.slice AE (n3 + 1) cE) = w7 at L ⊢
  have O_16 := L.at_ 1 16 rfl (v := .int .i64 (tt : Int)) rfl
  have O_z := L.lt 1 rfl
  have O_f16 := L.fz 1 16 rfl
  go_upto_region 8 with fail
  clear O_16 O_z O_f16
  replace L := ((L.set 1 16 rfl (.int .i64 (((tt : Int) + 1)))).is 1 (opv ⟨A0, n0, c0, A1, n1, c1, A2, n2, c2, AE, (n3 + 1), cE⟩ ⟨1, addr, err, aad, used, phase, shard, sought, leaf, bit, word, full, ((tt : Int) + 1), tries, item, stamp⟩) rfl)
  try dsimp only [nput] at L
  generalize (w7).setCell ⟨gO, 16, none⟩ (.int .i64 (((tt : Int) + 1))) = w8 at L ⊢
  replace L := L.drew
  refine wp_region_held_drew (S := fun w' => Loc w w' [(gR, 40, opv hd0 sc0), (gO, 40, opv ⟨A0, n0, c0, A1, n1, c1, A2, n2, c2, AE, (n3 + 1), cE⟩ ⟨1, addr, err, aad, used, phase, shard, sought, leaf, bit, word, full, ((tt : Int) + 1), tries, item, stamp⟩), (gH, 27, #[.int .u32 (a : Int), .int .i64 p, .slice A n c, .int .i64 sh, .int .i64 wo, .int .i64 qu, .int .i64 tr]), (gPR, 40, opv hd0 sc0), (gPO, 40, opv ⟨A0, n0, c0, A1, n1, c1, A2, n2, c2, A3, n3, c3⟩ ⟨1, addr, err, aad, used, phase, shard, sought, leaf, bit, word, full, (tt : Int), tries, item, stamp⟩), (gPH, 27, #[.int .u32 (a : Int), .int .i64 p, .slice A n c, .int .i64 sh, .int .i64 wo, .int .i64 qu, .int .i64 tr])] [rF .u64 37 lo AE (n3 + 1) cE (l.ses ++ [(x : Int)]), iF .u32 lo A0 n0 c0 l.rqs, iF .u32 lo A1 n1 c1 l.ads, iF .i64 lo A2 n2 c2 l.ers, zF lo]) (by kernel_rfl) L (fun hHeld => ?_)
  generalize w8.drew = v9 at hHeld L ⊢
  refine wpAnyH_take (i := 0) (oi := ⟨some 45, _, _, _, _, _⟩) (v := .pointer (some ⟨gO, 16, none⟩)) rfl (by kernel_rfl) (by kernel_rfl) (by kernel_rfl) (fun _ _ _ h => h) (Or.inl ⟨by rfl, ?_⟩) hHeld ?_
  · (intro ww hS; go_simp; try with_reducible rfl; try omega)
  try simp only [Act.put, sA, sZ, sS]
  refine wpAnyH_take (i := 1) (oi := ⟨some 46, _, _, _, _, _⟩) (v := .int .i64 (((tt : Int) + 1))) rfl (by kernel_rfl) (by kernel_rfl) (by kernel_rfl) (fun _ _ _ h => h) (Or.inl ⟨by rfl, ?_⟩) hHeld ?_
  · intro ww hS
    try dsimp only at hS
    have O_16 := (hS).at_ 1 16 rfl (v := .int .i64 (((tt : Int) + 1))) rfl
    have O_z := (hS).lt 1 rfl
    go_simp
    try with_reducible rfl
    try omega
  try simp only [Act.put, sA, sZ, sS]
  refine wpAnyH_take (i := 2) (oi := ⟨some 47, _, _, _, _, _⟩) (v := .agg (#[.int .u32 (a : Int), .int .i64 p, .slice A n c, .int .i64 sh, .int .i64 wo, .int .i64 qu, .int .i64 tr])) rfl (by kernel_rfl) (by kernel_rfl) (by kernel_rfl) (fun _ _ _ h => h) (yieldsIf_load_row (by rfl) 27 (.tmp 3) rfl gH rfl 27 _ (0, 0) _ (fun _ hS => (hS).bk_ 2 rfl) Tryz.underlying27 rfl cf_sz) hHeld ?_
  try simp only [Act.put, sA, sZ, sS]
  refine wpAnyH_ready (rs := [3]) (by kernel_rfl) (by simp) ?_
  refine AllReadyH.cons (o := ⟨some 48, _, _, _, _, _⟩) rfl (fun K0 hK => ?_) AllReadyH.nil
  go_simp
  refine ((TV _).out).mono ?_
  rintro e w10 ⟨rfl, K'⟩
  replace L := L.over K'
  refine hK.out _ _ L (fun hHeld' => ?_)
  clear hHeld hK K0
  have hHeld := hHeld'
  clear hHeld'
  clear K'
  try simp only [Act.put, sA, sZ, sS]
  refine wpAnyH_take (i := 4) (oi := ⟨some 49, _, _, _, _, _⟩) (v := .bool false) rfl (by kernel_rfl) (by kernel_rfl) (by kernel_rfl) (fun _ _ _ h => h) (Or.inl ⟨by rfl, ?_⟩) hHeld ?_
  · (intro ww hS; go_simp; try with_reducible rfl; try omega)
  try simp only [Act.put, sA, sZ, sS]
  refine wpAnyH_done (by kernel_rfl) ?_ _
  clear hHeld
  go_wp2_with (first | (refine wpList_load_row rfl 40 (.tmp 5) rfl gO rfl _ _ (0, 0) _ (L.bk_ 1 rfl) Tryz.underlying40 rfl op_sz ?_) | (refine wpList_store_row rfl 40 (.tmp 6) (.tmp 52) rfl gR _ rfl rfl _ _ (L.bk_ 0 rfl) op_sz rfl (opv_one _ _) ?_))
  replace L := (L.row 0 rfl (opv ⟨A0, n0, c0, A1, n1, c1, A2, n2, c2, AE, (n3 + 1), cE⟩ ⟨1, addr, err, aad, used, phase, shard, sought, leaf, bit, word, full, ((tt : Int) + 1), tries, item, stamp⟩))
  try dsimp only [nput] at L
  generalize (w10).setRow gR (opv ⟨A0, n0, c0, A1, n1, c1, A2, n2, c2, AE, (n3 + 1), cE⟩ ⟨1, addr, err, aad, used, phase, shard, sought, leaf, bit, word, full, ((tt : Int) + 1), tries, item, stamp⟩) = w11 at L ⊢
  refine bodyPost_ret (v := .agg (opv ⟨A0, n0, c0, A1, n1, c1, A2, n2, c2, AE, (n3 + 1), cE⟩ ⟨1, addr, err, aad, used, phase, shard, sought, leaf, bit, word, full, ((tt : Int) + 1), tries, item, stamp⟩)) ?_ rfl ?_
  · exact results_cell_row (fn := Tryz.f100) Tryz.results100 _ _ gR _ _ (0, 0) _ rfl (L.bk_ 0 rfl) Tryz.underlying40 rfl op_sz
  exact ⟨_, rfl, ⟨L.is_ 1 rfl, L.is_ 2 rfl, L.is_ 3 rfl, (L.ri_ 0 rfl).is⟩, ((((L.del 0).del 0).del 0).only (fun f h => by cases h))⟩
set_option maxHeartbeats 2000000 in
theorem sfirst_ag (ha : a < 4294967296) (hM : Much a p M) (L : Loc w w1 [(gPR, 40, opv hd0 sc0), (gPO, 40, opv h s), (gPH, 27, #[.int .u32 (a : Int), .int .i64 p, .slice A n c, .int .i64 sh, .int .i64 wo, .int .i64 qu, .int .i64 tr])] [rF .u64 37 lo h.A3 h.n3 h.c3 l.ses, iF .u32 lo h.A0 h.n0 h.c0 l.rqs, iF .u32 lo h.A1 h.n1 h.c1 l.ads, iF .i64 lo h.A2 h.n2 h.c2 l.ers, zF lo]) (hs0 : SepF (.slice h.A3 h.n3 h.c3) (iF .u32 lo h.A0 h.n0 h.c0 l.rqs)) (hs1 : SepF (.slice h.A3 h.n3 h.c3) (iF .u32 lo h.A1 h.n1 h.c1 l.ads)) (hs2 : SepF (.slice h.A3 h.n3 h.c3) (iF .i64 lo h.A2 h.n2 h.c2 l.ers)) (hlo : w.heap.size ≤ lo) (hU : US w B m d ys) (hat : s.at_ = (tt : Int)) (hlm : tt < m) (hk : s.kind = 1) (hn3 : h.n3 ≤ 65000) (htl : tt < lv M) (hb : fb (gt ys tt) 32 = false) (hlt : ¬ tt + 1 < lv M) :
    Calls Tryz.prog 100 #[.agg #[.int .u32 (a : Int), .int .i64 p, .slice A n c, .int .i64 sh, .int .i64 wo, .int .i64 qu, .int .i64 tr], .slice B m d, .agg (opv h s)] w1 (RetSwL lo (swAg s) ⟨l.rqs, l.ads, l.ers, l.ses ++ [((gt ys tt : Nat) : Int)]⟩ gPR gPO gPH (opv h s) #[.int .u32 (a : Int), .int .i64 p, .slice A n c, .int .i64 sh, .int .i64 wo, .int .i64 qu, .int .i64 tr] w w1) := by
  obtain ⟨i0, hi, hz0, hz1, hz2⟩ := info_parts clone64_info
  have TV := fun w => Lib.hid (swlv_any (w := w) (sh := sh) (wo := wo) (qu := qu) (tr := tr) (A := A) (n := n) (c := c) ha hM)
  have e1 : IntKind.i64.wrap ((tt : Int) + 1) = (tt : Int) + 1 := IntWalk.i64_in _ (by have := lv_le hM.most; omega)
  generalize lv M = Lv at TV hlt htl
  have e2 : decide ((Lv : Int) ≤ (tt : Int) + 1) = true := by simp; omega
  have TL := fun w (U : US w B m d ys) => Lib.hid (load_nat U tt hlm)
  have TF := fun w => Lib.hid (wfirst_any (gt ys tt) (gt_lt hU.fit tt) w)
  simp only [hb] at TF
  generalize fi (gt ys tt) 32 = f at TF ⊢
  clear hb
  generalize gt ys tt = x at TL TF ⊢
  clear hlt htl ha hM
  rcases s with ⟨kind, addr, err, aad, used, phase, shard, sought, leaf, bit, word, full, at_, tries, item, stamp⟩
  rcases h with ⟨A0, n0, c0, A1, n1, c1, A2, n2, c2, A3, n3, c3⟩
  try dsimp only at *
  subst hk hat
  go_enter Tryz.func100, Tryz.ntmps100
  go_upto_region 1 with (fail)
  replace L := (((L).alloc #[.int .u32 (a : Int), .int .i64 p, .slice A n c, .int .i64 sh, .int .i64 wo, .int .i64 qu, .int .i64 tr] 27).alloc (opv ⟨A0, n0, c0, A1, n1, c1, A2, n2, c2, A3, n3, c3⟩ ⟨1, addr, err, aad, used, phase, shard, sought, leaf, bit, word, full, (tt : Int), tries, item, stamp⟩) 40).alloc #[.int .i64 0, .int .u32 0, .slice none 0 0, .int .i64 0, .int .u32 0, .bool false, .slice none 0 0, .slice none 0 0, .int .i64 0, .int .i64 0, .int .i64 0, .int .i64 0, .int .i64 0, .int .u64 0, .bool false, .slice none 0 0, .int .i64 0, .int .i64 0, .int .i64 0, .int .i64 0] 40
  try simp only [World.size_alloc] at L
  replace L := L.is 0 (opv hd0 sc0) rfl
  try dsimp only [nput] at L
  generalize (((w1).alloc (.cells #[.int .u32 (a : Int), .int .i64 p, .slice A n c, .int .i64 sh, .int .i64 wo, .int .i64 qu, .int .i64 tr] 27)).alloc (.cells (opv ⟨A0, n0, c0, A1, n1, c1, A2, n2, c2, A3, n3, c3⟩ ⟨1, addr, err, aad, used, phase, shard, sought, leaf, bit, word, full, (tt : Int), tries, item, stamp⟩) 40)).alloc (.cells #[.int .i64 0, .int .u32 0, .slice none 0 0, .int .i64 0, .int .u32 0, .bool false, .slice none 0 0, .slice none 0 0, .int .i64 0, .int .i64 0, .int .i64 0, .int .i64 0, .int .i64 0, .int .u64 0, .bool false, .slice none 0 0, .int .i64 0, .int .i64 0, .int .i64 0, .int .i64 0] 40) = w6 at L ⊢
  generalize w1.heap.size + 1 + 1 = gR at L ⊢
  generalize w1.heap.size + 1 = gO at L ⊢
  generalize w1.heap.size = gH at L ⊢
  have O_16 := L.at_ 1 16 rfl (v := .int .i64 (tt : Int)) rfl
  have O_z := L.lt 1 rfl
  go_wp2_with fail
  refine ((TL _ (hU.below L.K)).out).mono ?_
  rintro e w' ⟨rfl, rfl⟩
  clear O_16 O_z
  go_wp2_with fail
  refine ((TF _).out).mono ?_
  rintro e w' ⟨rfl, rfl⟩
  obtain ⟨AE, cE, wAE, hapE, LA⟩ := L.app1 (P := Tryz.prog) (x := ((x : Nat) : Int)) (SepL.cons hs0 (SepL.cons hs1 (SepL.cons hs2 (SepL.cons SepF.z SepL.nil)))) hlo (by omega) (L.sz_ 4 rfl) Tryz.underlying38 hi hz0 hz1 hz2 38
  have O_15 := L.at_ 1 15 rfl (v := .slice A3 n3 c3) rfl
  have O_z := L.lt 1 rfl
  have Oa_f15 := LA.fz 1 15 rfl
  have Oa_15 := LA.at_ 1 15 rfl (v := .slice A3 n3 c3) rfl
  have Oa_z15 := LA.lt 1 rfl
  go_upto_region 7 with (at_builtin; refine wpList_append_run rfl (.tmp 36) (.tmp 38) 38 rfl _ _ _ _ rfl rfl hapE ?_)
  clear O_15 O_z Oa_f15 Oa_15 Oa_z15
  replace L := ((LA.set 1 15 rfl (.slice AE (n3 + 1) cE)).is 1 (opv ⟨A0, n0, c0, A1, n1, c1, A2, n2, c2, AE, (n3 + 1), cE⟩ ⟨1, addr, err, aad, used, phase, shard, sought, leaf, bit, word, full, (tt : Int), tries, item, stamp⟩) rfl)
  clear LA hapE
  try dsimp only [nput] at L
  generalize (wAE).setCell ⟨gO, 15, none⟩ (.slice AE (n3 + 1) cE) = w7 at L ⊢
  have O_16 := L.at_ 1 16 rfl (v := .int .i64 (tt : Int)) rfl
  have O_z := L.lt 1 rfl
  have O_f16 := L.fz 1 16 rfl
  go_upto_region 8 with fail
  clear O_16 O_z O_f16
  replace L := ((L.set 1 16 rfl (.int .i64 (((tt : Int) + 1)))).is 1 (opv ⟨A0, n0, c0, A1, n1, c1, A2, n2, c2, AE, (n3 + 1), cE⟩ ⟨1, addr, err, aad, used, phase, shard, sought, leaf, bit, word, full, ((tt : Int) + 1), tries, item, stamp⟩) rfl)
  try dsimp only [nput] at L
  generalize (w7).setCell ⟨gO, 16, none⟩ (.int .i64 (((tt : Int) + 1))) = w8 at L ⊢
  replace L := L.drew
  refine wp_region_held_drew (S := fun w' => Loc w w' [(gR, 40, opv hd0 sc0), (gO, 40, opv ⟨A0, n0, c0, A1, n1, c1, A2, n2, c2, AE, (n3 + 1), cE⟩ ⟨1, addr, err, aad, used, phase, shard, sought, leaf, bit, word, full, ((tt : Int) + 1), tries, item, stamp⟩), (gH, 27, #[.int .u32 (a : Int), .int .i64 p, .slice A n c, .int .i64 sh, .int .i64 wo, .int .i64 qu, .int .i64 tr]), (gPR, 40, opv hd0 sc0), (gPO, 40, opv ⟨A0, n0, c0, A1, n1, c1, A2, n2, c2, A3, n3, c3⟩ ⟨1, addr, err, aad, used, phase, shard, sought, leaf, bit, word, full, (tt : Int), tries, item, stamp⟩), (gPH, 27, #[.int .u32 (a : Int), .int .i64 p, .slice A n c, .int .i64 sh, .int .i64 wo, .int .i64 qu, .int .i64 tr])] [rF .u64 37 lo AE (n3 + 1) cE (l.ses ++ [(x : Int)]), iF .u32 lo A0 n0 c0 l.rqs, iF .u32 lo A1 n1 c1 l.ads, iF .i64 lo A2 n2 c2 l.ers, zF lo]) (by kernel_rfl) L (fun hHeld => ?_)
  generalize w8.drew = v9 at hHeld L ⊢
  refine wpAnyH_take (i := 0) (oi := ⟨some 45, _, _, _, _, _⟩) (v := .pointer (some ⟨gO, 16, none⟩)) rfl (by kernel_rfl) (by kernel_rfl) (by kernel_rfl) (fun _ _ _ h => h) (Or.inl ⟨by rfl, ?_⟩) hHeld ?_
  · (intro ww hS; go_simp; try with_reducible rfl; try omega)
  try simp only [Act.put, sA, sZ, sS]
  refine wpAnyH_take (i := 1) (oi := ⟨some 46, _, _, _, _, _⟩) (v := .int .i64 (((tt : Int) + 1))) rfl (by kernel_rfl) (by kernel_rfl) (by kernel_rfl) (fun _ _ _ h => h) (Or.inl ⟨by rfl, ?_⟩) hHeld ?_
  · intro ww hS
    try dsimp only at hS
    have O_16 := (hS).at_ 1 16 rfl (v := .int .i64 (((tt : Int) + 1))) rfl
    have O_z := (hS).lt 1 rfl
    go_simp
    try with_reducible rfl
    try omega
  try simp only [Act.put, sA, sZ, sS]
  refine wpAnyH_take (i := 2) (oi := ⟨some 47, _, _, _, _, _⟩) (v := .agg (#[.int .u32 (a : Int), .int .i64 p, .slice A n c, .int .i64 sh, .int .i64 wo, .int .i64 qu, .int .i64 tr])) rfl (by kernel_rfl) (by kernel_rfl) (by kernel_rfl) (fun _ _ _ h => h) (yieldsIf_load_row (by rfl) 27 (.tmp 3) rfl gH rfl 27 _ (0, 0) _ (fun _ hS => (hS).bk_ 2 rfl) Tryz.underlying27 rfl cf_sz) hHeld ?_
  try simp only [Act.put, sA, sZ, sS]
  refine wpAnyH_ready (rs := [3]) (by kernel_rfl) (by simp) ?_
  refine AllReadyH.cons (o := ⟨some 48, _, _, _, _, _⟩) rfl (fun K0 hK => ?_) AllReadyH.nil
  go_simp
  refine ((TV _).out).mono ?_
  rintro e w10 ⟨rfl, K'⟩
  replace L := L.over K'
  refine hK.out _ _ L (fun hHeld' => ?_)
  clear hHeld hK K0
  have hHeld := hHeld'
  clear hHeld'
  clear K'
  try simp only [Act.put, sA, sZ, sS]
  refine wpAnyH_take (i := 4) (oi := ⟨some 49, _, _, _, _, _⟩) (v := .bool true) rfl (by kernel_rfl) (by kernel_rfl) (by kernel_rfl) (fun _ _ _ h => h) (Or.inl ⟨by rfl, ?_⟩) hHeld ?_
  · (intro ww hS; go_simp; try with_reducible rfl; try omega)
  try simp only [Act.put, sA, sZ, sS]
  refine wpAnyH_done (by kernel_rfl) ?_ _
  clear hHeld
  have O_8 := L.at_ 1 8 rfl (v := .int .i64 phase) rfl
  have O_16 := L.at_ 1 16 rfl (v := .int .i64 (((tt : Int) + 1))) rfl
  have O_z := L.lt 1 rfl
  have O_f8 := L.fz 1 8 rfl
  have O_f16 := L.fz 1 16 rfl
  go_upto_region 10 with fail
  clear O_8 O_16 O_z O_f8 O_f16
  replace L := (((L.set 1 8 rfl (.int .i64 7)).set 1 16 rfl (.int .i64 0)).is 1 (opv ⟨A0, n0, c0, A1, n1, c1, A2, n2, c2, AE, (n3 + 1), cE⟩ ⟨1, addr, err, aad, used, 7, shard, sought, leaf, bit, word, full, 0, tries, item, stamp⟩) rfl)
  try dsimp only [nput] at L
  generalize ((w10).setCell ⟨gO, 8, none⟩ (.int .i64 7)).setCell ⟨gO, 16, none⟩ (.int .i64 0) = w11 at L ⊢
  go_wp2_with (first | (refine wpList_load_row rfl 40 (.tmp 5) rfl gO rfl _ _ (0, 0) _ (L.bk_ 1 rfl) Tryz.underlying40 rfl op_sz ?_) | (refine wpList_store_row rfl 40 (.tmp 6) (.tmp 52) rfl gR _ rfl rfl _ _ (L.bk_ 0 rfl) op_sz rfl (opv_one _ _) ?_))
  replace L := (L.row 0 rfl (opv ⟨A0, n0, c0, A1, n1, c1, A2, n2, c2, AE, (n3 + 1), cE⟩ ⟨1, addr, err, aad, used, 7, shard, sought, leaf, bit, word, full, 0, tries, item, stamp⟩))
  try dsimp only [nput] at L
  generalize (w11).setRow gR (opv ⟨A0, n0, c0, A1, n1, c1, A2, n2, c2, AE, (n3 + 1), cE⟩ ⟨1, addr, err, aad, used, 7, shard, sought, leaf, bit, word, full, 0, tries, item, stamp⟩) = w12 at L ⊢
  refine bodyPost_ret (v := .agg (opv ⟨A0, n0, c0, A1, n1, c1, A2, n2, c2, AE, (n3 + 1), cE⟩ ⟨1, addr, err, aad, used, 7, shard, sought, leaf, bit, word, full, 0, tries, item, stamp⟩)) ?_ rfl ?_
  · exact results_cell_row (fn := Tryz.f100) Tryz.results100 _ _ gR _ _ (0, 0) _ rfl (L.bk_ 0 rfl) Tryz.underlying40 rfl op_sz
  exact ⟨_, rfl, ⟨L.is_ 1 rfl, L.is_ 2 rfl, L.is_ 3 rfl, (L.ri_ 0 rfl).is⟩, ((((L.del 0).del 0).del 0).only (fun f h => by cases h))⟩
end
end Go.Proofs.YtghecdccdmeooaaGreat

/-
  What sweep.again answers of a Grant. Conditions: a block that may be, a leaf that there is, and was seen.
-/
namespace Go.Proofs.YtghecdccdmeooaaGreat
set_option maxRecDepth 100000
set_option maxRecDepth 100000
open Go.RowKit
set_option linter.unusedVariables false
section
variable {w w1 : World} {lo gPR gPO gPH a M m d tt : Nat} {p sh wo qu tr ph : Int} {A B : Option Addr} {n c : Nat} {sn ys : List Nat} {h : Hd} {s : Sc} {l : Ls}
set_option maxHeartbeats 2000000 in
theorem sagain_not (ha : a < 4294967296) (hM : Much a p M) (hI : IS .u64 lo w h.A3 h.n3 h.c3 (sn.map Int.ofNat)) (hf : ∀ x ∈ sn, x < U64) (hU : US w B m d ys) (hat : s.at_ = (tt : Int)) (hlm : tt < m) (htl : tt < lv M) (hn3 : tt < h.n3) (hL : Lists lo w h l) (hne : ¬ gt ys tt = gt sn tt) :
    Calls Tryz.prog 101 #[.agg #[.int .u32 (a : Int), .int .i64 p, .slice A n c, .int .i64 sh, .int .i64 wo, .int .i64 qu, .int .i64 tr], .slice B m d, .agg (opv h s), .func (.func 120) #[] #[]] w (RetSw lo (swLe s 6) (swNo l) false w) := by
  have hS := hI.seen hf
  have TL := fun w (U : US w B m d ys) => Lib.hid (load_nat U tt hlm)
  have TS := fun w (U : US w h.A3 h.n3 h.c3 sn) => Lib.hid (load_nat U tt hn3)
  have TV := fun w => Lib.hid (swlv_any (w := w) (sh := sh) (wo := wo) (qu := qu) (tr := tr) (A := A) (n := n) (c := c) ha hM)
  have e1 : IntKind.i64.wrap ((tt : Int) + 1) = (tt : Int) + 1 := IntWalk.i64_in _ (by have := lv_le hM.most; omega)
  generalize hx : gt ys tt = x at TL hne
  generalize hy : gt sn tt = y at TS hne
  clear hx hy
  have e3 : ((x : Int) != (y : Int)) = true := by simp; omega
  have e4 : (x != y) = true := by simp [hne]
  clear hne
  clear htl ha hM hI
  rcases s with ⟨kind, addr, err, aad, used, phase, shard, sought, leaf, bit, word, full, at_, tries, item, stamp⟩
  rcases h with ⟨A0, n0, c0, A1, n1, c1, A2, n2, c2, A3, n3, c3⟩
  try dsimp only at *
  subst hat
  go_enter Tryz.func101, Tryz.ntmps101
  go_upto_region 1 with (fail)
  have L := Loc.start w
  replace L := (((L).alloc #[.int .u32 (a : Int), .int .i64 p, .slice A n c, .int .i64 sh, .int .i64 wo, .int .i64 qu, .int .i64 tr] 27).alloc (opv ⟨A0, n0, c0, A1, n1, c1, A2, n2, c2, A3, n3, c3⟩ ⟨kind, addr, err, aad, used, phase, shard, sought, leaf, bit, word, full, (tt : Int), tries, item, stamp⟩) 40).alloc #[.int .i64 0, .int .u32 0, .slice none 0 0, .int .i64 0, .int .u32 0, .bool false, .slice none 0 0, .slice none 0 0, .int .i64 0, .int .i64 0, .int .i64 0, .int .i64 0, .int .i64 0, .int .u64 0, .bool false, .slice none 0 0, .int .i64 0, .int .i64 0, .int .i64 0, .int .i64 0] 40
  try simp only [World.size_alloc] at L
  replace L := L.is 0 (opv hd0 sc0) rfl
  try dsimp only [nput] at L
  generalize (((w).alloc (.cells #[.int .u32 (a : Int), .int .i64 p, .slice A n c, .int .i64 sh, .int .i64 wo, .int .i64 qu, .int .i64 tr] 27)).alloc (.cells (opv ⟨A0, n0, c0, A1, n1, c1, A2, n2, c2, A3, n3, c3⟩ ⟨kind, addr, err, aad, used, phase, shard, sought, leaf, bit, word, full, (tt : Int), tries, item, stamp⟩) 40)).alloc (.cells #[.int .i64 0, .int .u32 0, .slice none 0 0, .int .i64 0, .int .u32 0, .bool false, .slice none 0 0, .slice none 0 0, .int .i64 0, .int .i64 0, .int .i64 0, .int .i64 0, .int .i64 0, .int .u64 0, .bool false, .slice none 0 0, .int .i64 0, .int .i64 0, .int .i64 0, .int .i64 0] 40) = w1 at L ⊢
  generalize w.heap.size + 1 + 1 = gR at L ⊢
  generalize w.heap.size + 1 = gO at L ⊢
  generalize w.heap.size = gH at L ⊢
  replace L := L.drew
  refine wp_region_held_drew (S := fun w' => Loc w w' [(gR, 40, opv hd0 sc0), (gO, 40, opv ⟨A0, n0, c0, A1, n1, c1, A2, n2, c2, A3, n3, c3⟩ ⟨kind, addr, err, aad, used, phase, shard, sought, leaf, bit, word, full, (tt : Int), tries, item, stamp⟩), (gH, 27, #[.int .u32 (a : Int), .int .i64 p, .slice A n c, .int .i64 sh, .int .i64 wo, .int .i64 qu, .int .i64 tr])] []) (by kernel_rfl) L (fun hHeld => ?_)
  generalize w1.drew = v2 at hHeld L ⊢
  refine wpAnyH_take (i := 0) (oi := ⟨some 10, _, _, _, _, _⟩) (v := .slice B m d) rfl (by kernel_rfl) (by kernel_rfl) (by kernel_rfl) (fun _ _ _ h => h) (Or.inl ⟨by rfl, ?_⟩) hHeld ?_
  · (intro ww hS; go_simp; try with_reducible rfl; try omega)
  try simp only [Act.put, sA, sZ, sS]
  refine wpAnyH_take (i := 1) (oi := ⟨some 11, _, _, _, _, _⟩) (v := .pointer (some ⟨gO, 16, none⟩)) rfl (by kernel_rfl) (by kernel_rfl) (by kernel_rfl) (fun _ _ _ h => h) (Or.inl ⟨by rfl, ?_⟩) hHeld ?_
  · (intro ww hS; go_simp; try with_reducible rfl; try omega)
  try simp only [Act.put, sA, sZ, sS]
  refine wpAnyH_take (i := 2) (oi := ⟨some 12, _, _, _, _, _⟩) (v := .int .i64 (tt : Int)) rfl (by kernel_rfl) (by kernel_rfl) (by kernel_rfl) (fun _ _ _ h => h) (Or.inl ⟨by rfl, ?_⟩) hHeld ?_
  · intro ww hS
    try dsimp only at hS
    have O_16 := (hS).at_ 1 16 rfl (v := .int .i64 (tt : Int)) rfl
    have O_z := (hS).lt 1 rfl
    go_simp
    try with_reducible rfl
    try omega
  try simp only [Act.put, sA, sZ, sS]
  refine wpAnyH_take (i := 4) (oi := ⟨some 14, _, _, _, _, _⟩) (v := .pointer (some ⟨gO, 15, none⟩)) rfl (by kernel_rfl) (by kernel_rfl) (by kernel_rfl) (fun _ _ _ h => h) (Or.inl ⟨by rfl, ?_⟩) hHeld ?_
  · (intro ww hS; go_simp; try with_reducible rfl; try omega)
  try simp only [Act.put, sA, sZ, sS]
  refine wpAnyH_take (i := 5) (oi := ⟨some 15, _, _, _, _, _⟩) (v := .slice A3 n3 c3) rfl (by kernel_rfl) (by kernel_rfl) (by kernel_rfl) (fun _ _ _ h => h) (Or.inl ⟨by rfl, ?_⟩) hHeld ?_
  · intro ww hS
    try dsimp only at hS
    have O_15 := (hS).at_ 1 15 rfl (v := .slice A3 n3 c3) rfl
    have O_z := (hS).lt 1 rfl
    go_simp
    try with_reducible rfl
    try omega
  try simp only [Act.put, sA, sZ, sS]
  refine wpAnyH_take (i := 6) (oi := ⟨some 16, _, _, _, _, _⟩) (v := .pointer (some ⟨gO, 16, none⟩)) rfl (by kernel_rfl) (by kernel_rfl) (by kernel_rfl) (fun _ _ _ h => h) (Or.inl ⟨by rfl, ?_⟩) hHeld ?_
  · (intro ww hS; go_simp; try with_reducible rfl; try omega)
  try simp only [Act.put, sA, sZ, sS]
  refine wpAnyH_take (i := 7) (oi := ⟨some 17, _, _, _, _, _⟩) (v := .int .i64 (tt : Int)) rfl (by kernel_rfl) (by kernel_rfl) (by kernel_rfl) (fun _ _ _ h => h) (Or.inl ⟨by rfl, ?_⟩) hHeld ?_
  · intro ww hS
    try dsimp only at hS
    have O_16 := (hS).at_ 1 16 rfl (v := .int .i64 (tt : Int)) rfl
    have O_z := (hS).lt 1 rfl
    go_simp
    try with_reducible rfl
    try omega
  try simp only [Act.put, sA, sZ, sS]
  refine wpAnyH_ready (rs := [3]) (by kernel_rfl) (by simp) ?_
  refine AllReadyH.cons (o := ⟨some 13, _, _, _, _, _⟩) rfl (fun K0 hK => ?_) AllReadyH.nil
  go_simp
  refine ((TL _ (hU.below L.K)).out).mono ?_
  rintro e w' ⟨rfl, rfl⟩
  refine hK.out _ _ L (fun hHeld' => ?_)
  clear hHeld hK K0
  have hHeld := hHeld'
  clear hHeld'
  try simp only [Act.put, sA, sZ, sS]
  refine wpAnyH_ready (rs := [8]) (by kernel_rfl) (by simp) ?_
  refine AllReadyH.cons (o := ⟨some 18, _, _, _, _, _⟩) rfl (fun K0 hK => ?_) AllReadyH.nil
  go_simp
  refine ((TS _ (hS.below L.K)).out).mono ?_
  rintro e w' ⟨rfl, rfl⟩
  refine hK.out _ _ L (fun hHeld' => ?_)
  clear hHeld hK K0
  have hHeld := hHeld'
  clear hHeld'
  try simp only [Act.put, sA, sZ, sS]
  refine wpAnyH_take (i := 9) (oi := ⟨some 19, _, _, _, _, _⟩) (v := .bool true) rfl (by kernel_rfl) (by kernel_rfl) (by kernel_rfl) (fun _ _ _ h => h) (Or.inl ⟨by rfl, ?_⟩) hHeld ?_
  · (intro ww hS; go_simp; try with_reducible rfl; try omega)
  try simp only [Act.put, sA, sZ, sS]
  refine wpAnyH_done (by kernel_rfl) ?_ _
  clear hHeld
  go_wp2_with (first | (refine wpList_load_row rfl 27 (.tmp 4) rfl gH rfl _ _ (0, 0) _ (L.bk_ 2 rfl) Tryz.underlying27 rfl cf_sz ?_) | (refine wpList_load_row rfl 40 (.tmp 6) rfl gO rfl _ _ (0, 0) _ (L.bk_ 1 rfl) Tryz.underlying40 rfl op_sz ?_))
  refine (full_not).mono ?_
  rintro e w3 ⟨rfl, K'⟩
  replace L := L.over K'
  go_wp2_with (refine wpList_store_row rfl 40 (.tmp 8) (.tmp 24) rfl gR _ rfl rfl _ _ (L.bk_ 0 rfl) op_sz rfl (opv_one _ _) ?_)
  replace L := (L.row 0 rfl (opv (swH ⟨A0, n0, c0, A1, n1, c1, A2, n2, c2, A3, n3, c3⟩) (swLe ⟨kind, addr, err, aad, used, phase, shard, sought, leaf, bit, word, full, (tt : Int), tries, item, stamp⟩ 6)))
  try dsimp only [nput] at L
  generalize (w3).setRow gR (opv (swH ⟨A0, n0, c0, A1, n1, c1, A2, n2, c2, A3, n3, c3⟩) (swLe ⟨kind, addr, err, aad, used, phase, shard, sought, leaf, bit, word, full, (tt : Int), tries, item, stamp⟩ 6)) = w4 at L ⊢
  refine bodyPost_ret (v := .tuple #[.agg (opv (swH ⟨A0, n0, c0, A1, n1, c1, A2, n2, c2, A3, n3, c3⟩) (swLe ⟨kind, addr, err, aad, used, phase, shard, sought, leaf, bit, word, full, (tt : Int), tries, item, stamp⟩ 6)), .bool false]) ?_ rfl ?_
  · exact results_ct (fn := Tryz.f101) Tryz.results101 _ _ gR _ _ (0, 0) _ rfl (L.bk_ 0 rfl) Tryz.underlying40 rfl op_sz
  exact ⟨_, rfl, swLists (hL.below L.K), L.K⟩
set_option maxHeartbeats 2000000 in
theorem sagain_mv (ha : a < 4294967296) (hM : Much a p M) (hI : IS .u64 lo w h.A3 h.n3 h.c3 (sn.map Int.ofNat)) (hf : ∀ x ∈ sn, x < U64) (hU : US w B m d ys) (hat : s.at_ = (tt : Int)) (hlm : tt < m) (htl : tt < lv M) (hn3 : tt < h.n3) (hL : Lists lo w h l) (hne : gt ys tt = gt sn tt) (hlt : tt + 1 < lv M) :
    Calls Tryz.prog 101 #[.agg #[.int .u32 (a : Int), .int .i64 p, .slice A n c, .int .i64 sh, .int .i64 wo, .int .i64 qu, .int .i64 tr], .slice B m d, .agg (opv h s), .func (.func 120) #[] #[]] w (RetSw lo (swMv s) (l) false w) := by
  have hS := hI.seen hf
  have TL := fun w (U : US w B m d ys) => Lib.hid (load_nat U tt hlm)
  have TS := fun w (U : US w h.A3 h.n3 h.c3 sn) => Lib.hid (load_nat U tt hn3)
  have TV := fun w => Lib.hid (swlv_any (w := w) (sh := sh) (wo := wo) (qu := qu) (tr := tr) (A := A) (n := n) (c := c) ha hM)
  have e1 : IntKind.i64.wrap ((tt : Int) + 1) = (tt : Int) + 1 := IntWalk.i64_in _ (by have := lv_le hM.most; omega)
  generalize lv M = Lv at TV hlt htl
  have e2 : decide ((Lv : Int) ≤ (tt : Int) + 1) = false := by simp; omega
  simp only [hne] at TL
  generalize hy : gt sn tt = y at TL TS hne
  clear hne hy
  clear htl ha hM hI hlt
  rcases s with ⟨kind, addr, err, aad, used, phase, shard, sought, leaf, bit, word, full, at_, tries, item, stamp⟩
  rcases h with ⟨A0, n0, c0, A1, n1, c1, A2, n2, c2, A3, n3, c3⟩
  try dsimp only at *
  subst hat
  go_enter Tryz.func101, Tryz.ntmps101
  go_upto_region 1 with (fail)
  have L := Loc.start w
  replace L := (((L).alloc #[.int .u32 (a : Int), .int .i64 p, .slice A n c, .int .i64 sh, .int .i64 wo, .int .i64 qu, .int .i64 tr] 27).alloc (opv ⟨A0, n0, c0, A1, n1, c1, A2, n2, c2, A3, n3, c3⟩ ⟨kind, addr, err, aad, used, phase, shard, sought, leaf, bit, word, full, (tt : Int), tries, item, stamp⟩) 40).alloc #[.int .i64 0, .int .u32 0, .slice none 0 0, .int .i64 0, .int .u32 0, .bool false, .slice none 0 0, .slice none 0 0, .int .i64 0, .int .i64 0, .int .i64 0, .int .i64 0, .int .i64 0, .int .u64 0, .bool false, .slice none 0 0, .int .i64 0, .int .i64 0, .int .i64 0, .int .i64 0] 40
  try simp only [World.size_alloc] at L
  replace L := L.is 0 (opv hd0 sc0) rfl
  try dsimp only [nput] at L
  generalize (((w).alloc (.cells #[.int .u32 (a : Int), .int .i64 p, .slice A n c, .int .i64 sh, .int .i64 wo, .int .i64 qu, .int .i64 tr] 27)).alloc (.cells (opv ⟨A0, n0, c0, A1, n1, c1, A2, n2, c2, A3, n3, c3⟩ ⟨kind, addr, err, aad, used, phase, shard, sought, leaf, bit, word, full, (tt : Int), tries, item, stamp⟩) 40)).alloc (.cells #[.int .i64 0, .int .u32 0, .slice none 0 0, .int .i64 0, .int .u32 0, .bool false, .slice none 0 0, .slice none 0 0, .int .i64 0, .int .i64 0, .int .i64 0, .int .i64 0, .int .i64 0, .int .u64 0, .bool false, .slice none 0 0, .int .i64 0, .int .i64 0, .int .i64 0, .int .i64 0] 40) = w1 at L ⊢
  generalize w.heap.size + 1 + 1 = gR at L ⊢
  generalize w.heap.size + 1 = gO at L ⊢
  generalize w.heap.size = gH at L ⊢
  replace L := L.drew
  refine wp_region_held_drew (S := fun w' => Loc w w' [(gR, 40, opv hd0 sc0), (gO, 40, opv ⟨A0, n0, c0, A1, n1, c1, A2, n2, c2, A3, n3, c3⟩ ⟨kind, addr, err, aad, used, phase, shard, sought, leaf, bit, word, full, (tt : Int), tries, item, stamp⟩), (gH, 27, #[.int .u32 (a : Int), .int .i64 p, .slice A n c, .int .i64 sh, .int .i64 wo, .int .i64 qu, .int .i64 tr])] []) (by kernel_rfl) L (fun hHeld => ?_)
  generalize w1.drew = v2 at hHeld L ⊢
  refine wpAnyH_take (i := 0) (oi := ⟨some 10, _, _, _, _, _⟩) (v := .slice B m d) rfl (by kernel_rfl) (by kernel_rfl) (by kernel_rfl) (fun _ _ _ h => h) (Or.inl ⟨by rfl, ?_⟩) hHeld ?_
  · (intro ww hS; go_simp; try with_reducible rfl; try omega)
  try simp only [Act.put, sA, sZ, sS]
  refine wpAnyH_take (i := 1) (oi := ⟨some 11, _, _, _, _, _⟩) (v := .pointer (some ⟨gO, 16, none⟩)) rfl (by kernel_rfl) (by kernel_rfl) (by kernel_rfl) (fun _ _ _ h => h) (Or.inl ⟨by rfl, ?_⟩) hHeld ?_
  · (intro ww hS; go_simp; try with_reducible rfl; try omega)
  try simp only [Act.put, sA, sZ, sS]
  refine wpAnyH_take (i := 2) (oi := ⟨some 12, _, _, _, _, _⟩) (v := .int .i64 (tt : Int)) rfl (by kernel_rfl) (by kernel_rfl) (by kernel_rfl) (fun _ _ _ h => h) (Or.inl ⟨by rfl, ?_⟩) hHeld ?_
  · intro ww hS
    try dsimp only at hS
    have O_16 := (hS).at_ 1 16 rfl (v := .int .i64 (tt : Int)) rfl
    have O_z := (hS).lt 1 rfl
    go_simp
    try with_reducible rfl
    try omega
  try simp only [Act.put, sA, sZ, sS]
  refine wpAnyH_take (i := 4) (oi := ⟨some 14, _, _, _, _, _⟩) (v := .pointer (some ⟨gO, 15, none⟩)) rfl (by kernel_rfl) (by kernel_rfl) (by kernel_rfl) (fun _ _ _ h => h) (Or.inl ⟨by rfl, ?_⟩) hHeld ?_
  · (intro ww hS; go_simp; try with_reducible rfl; try omega)
  try simp only [Act.put, sA, sZ, sS]
  refine wpAnyH_take (i := 5) (oi := ⟨some 15, _, _, _, _, _⟩) (v := .slice A3 n3 c3) rfl (by kernel_rfl) (by kernel_rfl) (by kernel_rfl) (fun _ _ _ h => h) (Or.inl ⟨by rfl, ?_⟩) hHeld ?_
  · intro ww hS
    try dsimp only at hS
    have O_15 := (hS).at_ 1 15 rfl (v := .slice A3 n3 c3) rfl
    have O_z := (hS).lt 1 rfl
    go_simp
    try with_reducible rfl
    try omega
  try simp only [Act.put, sA, sZ, sS]
  refine wpAnyH_take (i := 6) (oi := ⟨some 16, _, _, _, _, _⟩) (v := .pointer (some ⟨gO, 16, none⟩)) rfl (by kernel_rfl) (by kernel_rfl) (by kernel_rfl) (fun _ _ _ h => h) (Or.inl ⟨by rfl, ?_⟩) hHeld ?_
  · (intro ww hS; go_simp; try with_reducible rfl; try omega)
  try simp only [Act.put, sA, sZ, sS]
  refine wpAnyH_take (i := 7) (oi := ⟨some 17, _, _, _, _, _⟩) (v := .int .i64 (tt : Int)) rfl (by kernel_rfl) (by kernel_rfl) (by kernel_rfl) (fun _ _ _ h => h) (Or.inl ⟨by rfl, ?_⟩) hHeld ?_
  · intro ww hS
    try dsimp only at hS
    have O_16 := (hS).at_ 1 16 rfl (v := .int .i64 (tt : Int)) rfl
    have O_z := (hS).lt 1 rfl
    go_simp
    try with_reducible rfl
    try omega
  try simp only [Act.put, sA, sZ, sS]
  refine wpAnyH_ready (rs := [3]) (by kernel_rfl) (by simp) ?_
  refine AllReadyH.cons (o := ⟨some 13, _, _, _, _, _⟩) rfl (fun K0 hK => ?_) AllReadyH.nil
  go_simp
  refine ((TL _ (hU.below L.K)).out).mono ?_
  rintro e w' ⟨rfl, rfl⟩
  refine hK.out _ _ L (fun hHeld' => ?_)
  clear hHeld hK K0
  have hHeld := hHeld'
  clear hHeld'
  try simp only [Act.put, sA, sZ, sS]
  refine wpAnyH_ready (rs := [8]) (by kernel_rfl) (by simp) ?_
  refine AllReadyH.cons (o := ⟨some 18, _, _, _, _, _⟩) rfl (fun K0 hK => ?_) AllReadyH.nil
  go_simp
  refine ((TS _ (hS.below L.K)).out).mono ?_
  rintro e w' ⟨rfl, rfl⟩
  refine hK.out _ _ L (fun hHeld' => ?_)
  clear hHeld hK K0
  have hHeld := hHeld'
  clear hHeld'
  try simp only [Act.put, sA, sZ, sS]
  refine wpAnyH_take (i := 9) (oi := ⟨some 19, _, _, _, _, _⟩) (v := .bool false) rfl (by kernel_rfl) (by kernel_rfl) (by kernel_rfl) (fun _ _ _ h => h) (Or.inl ⟨by rfl, ?_⟩) hHeld ?_
  · (intro ww hS; go_simp; try with_reducible rfl; try omega)
  try simp only [Act.put, sA, sZ, sS]
  refine wpAnyH_done (by kernel_rfl) ?_ _
  clear hHeld
  have O_16 := L.at_ 1 16 rfl (v := .int .i64 (tt : Int)) rfl
  have O_z := L.lt 1 rfl
  have O_f16 := L.fz 1 16 rfl
  go_upto_region 4 with fail
  clear O_16 O_z O_f16
  replace L := ((L.set 1 16 rfl (.int .i64 (((tt : Int) + 1)))).is 1 (opv ⟨A0, n0, c0, A1, n1, c1, A2, n2, c2, A3, n3, c3⟩ ⟨kind, addr, err, aad, used, phase, shard, sought, leaf, bit, word, full, ((tt : Int) + 1), tries, item, stamp⟩) rfl)
  try dsimp only [nput] at L
  generalize (v2).setCell ⟨gO, 16, none⟩ (.int .i64 (((tt : Int) + 1))) = w3 at L ⊢
  replace L := L.drew
  refine wp_region_held_drew (S := fun w' => Loc w w' [(gR, 40, opv hd0 sc0), (gO, 40, opv ⟨A0, n0, c0, A1, n1, c1, A2, n2, c2, A3, n3, c3⟩ ⟨kind, addr, err, aad, used, phase, shard, sought, leaf, bit, word, full, ((tt : Int) + 1), tries, item, stamp⟩), (gH, 27, #[.int .u32 (a : Int), .int .i64 p, .slice A n c, .int .i64 sh, .int .i64 wo, .int .i64 qu, .int .i64 tr])] []) (by kernel_rfl) L (fun hHeld => ?_)
  generalize w3.drew = v4 at hHeld L ⊢
  refine wpAnyH_take (i := 0) (oi := ⟨some 30, _, _, _, _, _⟩) (v := .pointer (some ⟨gO, 16, none⟩)) rfl (by kernel_rfl) (by kernel_rfl) (by kernel_rfl) (fun _ _ _ h => h) (Or.inl ⟨by rfl, ?_⟩) hHeld ?_
  · (intro ww hS; go_simp; try with_reducible rfl; try omega)
  try simp only [Act.put, sA, sZ, sS]
  refine wpAnyH_take (i := 1) (oi := ⟨some 31, _, _, _, _, _⟩) (v := .int .i64 (((tt : Int) + 1))) rfl (by kernel_rfl) (by kernel_rfl) (by kernel_rfl) (fun _ _ _ h => h) (Or.inl ⟨by rfl, ?_⟩) hHeld ?_
  · intro ww hS
    try dsimp only at hS
    have O_16 := (hS).at_ 1 16 rfl (v := .int .i64 (((tt : Int) + 1))) rfl
    have O_z := (hS).lt 1 rfl
    go_simp
    try with_reducible rfl
    try omega
  try simp only [Act.put, sA, sZ, sS]
  refine wpAnyH_take (i := 2) (oi := ⟨some 32, _, _, _, _, _⟩) (v := .agg (#[.int .u32 (a : Int), .int .i64 p, .slice A n c, .int .i64 sh, .int .i64 wo, .int .i64 qu, .int .i64 tr])) rfl (by kernel_rfl) (by kernel_rfl) (by kernel_rfl) (fun _ _ _ h => h) (yieldsIf_load_row (by rfl) 27 (.tmp 4) rfl gH rfl 27 _ (0, 0) _ (fun _ hS => (hS).bk_ 2 rfl) Tryz.underlying27 rfl cf_sz) hHeld ?_
  try simp only [Act.put, sA, sZ, sS]
  refine wpAnyH_ready (rs := [3]) (by kernel_rfl) (by simp) ?_
  refine AllReadyH.cons (o := ⟨some 33, _, _, _, _, _⟩) rfl (fun K0 hK => ?_) AllReadyH.nil
  go_simp
  refine ((TV _).out).mono ?_
  rintro e w5 ⟨rfl, K'⟩
  replace L := L.over K'
  refine hK.out _ _ L (fun hHeld' => ?_)
  clear hHeld hK K0
  have hHeld := hHeld'
  clear hHeld'
  clear K'
  try simp only [Act.put, sA, sZ, sS]
  refine wpAnyH_take (i := 4) (oi := ⟨some 34, _, _, _, _, _⟩) (v := .bool false) rfl (by kernel_rfl) (by kernel_rfl) (by kernel_rfl) (fun _ _ _ h => h) (Or.inl ⟨by rfl, ?_⟩) hHeld ?_
  · (intro ww hS; go_simp; try with_reducible rfl; try omega)
  try simp only [Act.put, sA, sZ, sS]
  refine wpAnyH_done (by kernel_rfl) ?_ _
  clear hHeld
  go_wp2_with (first | (refine wpList_load_row rfl 40 (.tmp 6) rfl gO rfl _ _ (0, 0) _ (L.bk_ 1 rfl) Tryz.underlying40 rfl op_sz ?_) | (refine wpList_store_row rfl 40 (.tmp 8) (.tmp 41) rfl gR _ rfl rfl _ _ (L.bk_ 0 rfl) op_sz rfl (opv_one _ _) ?_))
  replace L := (L.row 0 rfl (opv ⟨A0, n0, c0, A1, n1, c1, A2, n2, c2, A3, n3, c3⟩ ⟨kind, addr, err, aad, used, phase, shard, sought, leaf, bit, word, full, ((tt : Int) + 1), tries, item, stamp⟩))
  try dsimp only [nput] at L
  generalize (w5).setRow gR (opv ⟨A0, n0, c0, A1, n1, c1, A2, n2, c2, A3, n3, c3⟩ ⟨kind, addr, err, aad, used, phase, shard, sought, leaf, bit, word, full, ((tt : Int) + 1), tries, item, stamp⟩) = w6 at L ⊢
  refine bodyPost_ret (v := .tuple #[.agg (opv ⟨A0, n0, c0, A1, n1, c1, A2, n2, c2, A3, n3, c3⟩ ⟨kind, addr, err, aad, used, phase, shard, sought, leaf, bit, word, full, ((tt : Int) + 1), tries, item, stamp⟩), .bool false]) ?_ rfl ?_
  · exact results_ct (fn := Tryz.f101) Tryz.results101 _ _ gR _ _ (0, 0) _ rfl (L.bk_ 0 rfl) Tryz.underlying40 rfl op_sz
  exact ⟨_, rfl, hL.below L.K, L.K⟩
set_option maxHeartbeats 2000000 in
theorem sagain_end (ha : a < 4294967296) (hM : Much a p M) (hI : IS .u64 lo w h.A3 h.n3 h.c3 (sn.map Int.ofNat)) (hf : ∀ x ∈ sn, x < U64) (hU : US w B m d ys) (hat : s.at_ = (tt : Int)) (hlm : tt < m) (htl : tt < lv M) (hn3 : tt < h.n3) (hL : Lists lo w h l) (hne : gt ys tt = gt sn tt) (hlt : ¬ tt + 1 < lv M) :
    Calls Tryz.prog 101 #[.agg #[.int .u32 (a : Int), .int .i64 p, .slice A n c, .int .i64 sh, .int .i64 wo, .int .i64 qu, .int .i64 tr], .slice B m d, .agg (opv h s), .func (.func 120) #[] #[]] w (RetSw lo (swEn s) (swNo l) true w) := by
  have hS := hI.seen hf
  have TL := fun w (U : US w B m d ys) => Lib.hid (load_nat U tt hlm)
  have TS := fun w (U : US w h.A3 h.n3 h.c3 sn) => Lib.hid (load_nat U tt hn3)
  have TV := fun w => Lib.hid (swlv_any (w := w) (sh := sh) (wo := wo) (qu := qu) (tr := tr) (A := A) (n := n) (c := c) ha hM)
  have e1 : IntKind.i64.wrap ((tt : Int) + 1) = (tt : Int) + 1 := IntWalk.i64_in _ (by have := lv_le hM.most; omega)
  generalize lv M = Lv at TV hlt htl
  have e2 : decide ((Lv : Int) ≤ (tt : Int) + 1) = true := by simp; omega
  simp only [hne] at TL
  generalize hy : gt sn tt = y at TL TS hne
  clear hne hy
  clear htl ha hM hI hlt
  rcases s with ⟨kind, addr, err, aad, used, phase, shard, sought, leaf, bit, word, full, at_, tries, item, stamp⟩
  rcases h with ⟨A0, n0, c0, A1, n1, c1, A2, n2, c2, A3, n3, c3⟩
  try dsimp only at *
  subst hat
  go_enter Tryz.func101, Tryz.ntmps101
  go_upto_region 1 with (fail)
  have L := Loc.start w
  replace L := (((L).alloc #[.int .u32 (a : Int), .int .i64 p, .slice A n c, .int .i64 sh, .int .i64 wo, .int .i64 qu, .int .i64 tr] 27).alloc (opv ⟨A0, n0, c0, A1, n1, c1, A2, n2, c2, A3, n3, c3⟩ ⟨kind, addr, err, aad, used, phase, shard, sought, leaf, bit, word, full, (tt : Int), tries, item, stamp⟩) 40).alloc #[.int .i64 0, .int .u32 0, .slice none 0 0, .int .i64 0, .int .u32 0, .bool false, .slice none 0 0, .slice none 0 0, .int .i64 0, .int .i64 0, .int .i64 0, .int .i64 0, .int .i64 0, .int .u64 0, .bool false, .slice none 0 0, .int .i64 0, .int .i64 0, .int .i64 0, .int .i64 0] 40
  try simp only [World.size_alloc] at L
  replace L := L.is 0 (opv hd0 sc0) rfl
  try dsimp only [nput] at L
  generalize (((w).alloc (.cells #[.int .u32 (a : Int), .int .i64 p, .slice A n c, .int .i64 sh, .int .i64 wo, .int .i64 qu, .int .i64 tr] 27)).alloc (.cells (opv ⟨A0, n0, c0, A1, n1, c1, A2, n2, c2, A3, n3, c3⟩ ⟨kind, addr, err, aad, used, phase, shard, sought, leaf, bit, word, full, (tt : Int), tries, item, stamp⟩) 40)).alloc (.cells #[.int .i64 0, .int .u32 0, .slice none 0 0, .int .i64 0, .int .u32 0, .bool false, .slice none 0 0, .slice none 0 0, .int .i64 0, .int .i64 0, .int .i64 0, .int .i64 0, .int .i64 0, .int .u64 0, .bool false, .slice none 0 0, .int .i64 0, .int .i64 0, .int .i64 0, .int .i64 0] 40) = w1 at L ⊢
  generalize w.heap.size + 1 + 1 = gR at L ⊢
  generalize w.heap.size + 1 = gO at L ⊢
  generalize w.heap.size = gH at L ⊢
  replace L := L.drew
  refine wp_region_held_drew (S := fun w' => Loc w w' [(gR, 40, opv hd0 sc0), (gO, 40, opv ⟨A0, n0, c0, A1, n1, c1, A2, n2, c2, A3, n3, c3⟩ ⟨kind, addr, err, aad, used, phase, shard, sought, leaf, bit, word, full, (tt : Int), tries, item, stamp⟩), (gH, 27, #[.int .u32 (a : Int), .int .i64 p, .slice A n c, .int .i64 sh, .int .i64 wo, .int .i64 qu, .int .i64 tr])] []) (by kernel_rfl) L (fun hHeld => ?_)
  generalize w1.drew = v2 at hHeld L ⊢
  refine wpAnyH_take (i := 0) (oi := ⟨some 10, _, _, _, _, _⟩) (v := .slice B m d) rfl (by kernel_rfl) (by kernel_rfl) (by kernel_rfl) (fun _ _ _ h => h) (Or.inl ⟨by rfl, ?_⟩) hHeld ?_
  · (intro ww hS; go_simp; try with_reducible rfl; try omega)
  try simp only [Act.put, sA, sZ, sS]
  refine wpAnyH_take (i := 1) (oi := ⟨some 11, _, _, _, _, _⟩) (v := .pointer (some ⟨gO, 16, none⟩)) rfl (by kernel_rfl) (by kernel_rfl) (by kernel_rfl) (fun _ _ _ h => h) (Or.inl ⟨by rfl, ?_⟩) hHeld ?_
  · (intro ww hS; go_simp; try with_reducible rfl; try omega)
  try simp only [Act.put, sA, sZ, sS]
  refine wpAnyH_take (i := 2) (oi := ⟨some 12, _, _, _, _, _⟩) (v := .int .i64 (tt : Int)) rfl (by kernel_rfl) (by kernel_rfl) (by kernel_rfl) (fun _ _ _ h => h) (Or.inl ⟨by rfl, ?_⟩) hHeld ?_
  · intro ww hS
    try dsimp only at hS
    have O_16 := (hS).at_ 1 16 rfl (v := .int .i64 (tt : Int)) rfl
    have O_z := (hS).lt 1 rfl
    go_simp
    try with_reducible rfl
    try omega
  try simp only [Act.put, sA, sZ, sS]
  refine wpAnyH_take (i := 4) (oi := ⟨some 14, _, _, _, _, _⟩) (v := .pointer (some ⟨gO, 15, none⟩)) rfl (by kernel_rfl) (by kernel_rfl) (by kernel_rfl) (fun _ _ _ h => h) (Or.inl ⟨by rfl, ?_⟩) hHeld ?_
  · (intro ww hS; go_simp; try with_reducible rfl; try omega)
  try simp only [Act.put, sA, sZ, sS]
  refine wpAnyH_take (i := 5) (oi := ⟨some 15, _, _, _, _, _⟩) (v := .slice A3 n3 c3) rfl (by kernel_rfl) (by kernel_rfl) (by kernel_rfl) (fun _ _ _ h => h) (Or.inl ⟨by rfl, ?_⟩) hHeld ?_
  · intro ww hS
    try dsimp only at hS
    have O_15 := (hS).at_ 1 15 rfl (v := .slice A3 n3 c3) rfl
    have O_z := (hS).lt 1 rfl
    go_simp
    try with_reducible rfl
    try omega
  try simp only [Act.put, sA, sZ, sS]
  refine wpAnyH_take (i := 6) (oi := ⟨some 16, _, _, _, _, _⟩) (v := .pointer (some ⟨gO, 16, none⟩)) rfl (by kernel_rfl) (by kernel_rfl) (by kernel_rfl) (fun _ _ _ h => h) (Or.inl ⟨by rfl, ?_⟩) hHeld ?_
  · (intro ww hS; go_simp; try with_reducible rfl; try omega)
  try simp only [Act.put, sA, sZ, sS]
  refine wpAnyH_take (i := 7) (oi := ⟨some 17, _, _, _, _, _⟩) (v := .int .i64 (tt : Int)) rfl (by kernel_rfl) (by kernel_rfl) (by kernel_rfl) (fun _ _ _ h => h) (Or.inl ⟨by rfl, ?_⟩) hHeld ?_
  · intro ww hS
    try dsimp only at hS
    have O_16 := (hS).at_ 1 16 rfl (v := .int .i64 (tt : Int)) rfl
    have O_z := (hS).lt 1 rfl
    go_simp
    try with_reducible rfl
    try omega
  try simp only [Act.put, sA, sZ, sS]
  refine wpAnyH_ready (rs := [3]) (by kernel_rfl) (by simp) ?_
  refine AllReadyH.cons (o := ⟨some 13, _, _, _, _, _⟩) rfl (fun K0 hK => ?_) AllReadyH.nil
  go_simp
  refine ((TL _ (hU.below L.K)).out).mono ?_
  rintro e w' ⟨rfl, rfl⟩
  refine hK.out _ _ L (fun hHeld' => ?_)
  clear hHeld hK K0
  have hHeld := hHeld'
  clear hHeld'
  try simp only [Act.put, sA, sZ, sS]
  refine wpAnyH_ready (rs := [8]) (by kernel_rfl) (by simp) ?_
  refine AllReadyH.cons (o := ⟨some 18, _, _, _, _, _⟩) rfl (fun K0 hK => ?_) AllReadyH.nil
  go_simp
  refine ((TS _ (hS.below L.K)).out).mono ?_
  rintro e w' ⟨rfl, rfl⟩
  refine hK.out _ _ L (fun hHeld' => ?_)
  clear hHeld hK K0
  have hHeld := hHeld'
  clear hHeld'
  try simp only [Act.put, sA, sZ, sS]
  refine wpAnyH_take (i := 9) (oi := ⟨some 19, _, _, _, _, _⟩) (v := .bool false) rfl (by kernel_rfl) (by kernel_rfl) (by kernel_rfl) (fun _ _ _ h => h) (Or.inl ⟨by rfl, ?_⟩) hHeld ?_
  · (intro ww hS; go_simp; try with_reducible rfl; try omega)
  try simp only [Act.put, sA, sZ, sS]
  refine wpAnyH_done (by kernel_rfl) ?_ _
  clear hHeld
  have O_16 := L.at_ 1 16 rfl (v := .int .i64 (tt : Int)) rfl
  have O_z := L.lt 1 rfl
  have O_f16 := L.fz 1 16 rfl
  go_upto_region 4 with fail
  clear O_16 O_z O_f16
  replace L := ((L.set 1 16 rfl (.int .i64 (((tt : Int) + 1)))).is 1 (opv ⟨A0, n0, c0, A1, n1, c1, A2, n2, c2, A3, n3, c3⟩ ⟨kind, addr, err, aad, used, phase, shard, sought, leaf, bit, word, full, ((tt : Int) + 1), tries, item, stamp⟩) rfl)
  try dsimp only [nput] at L
  generalize (v2).setCell ⟨gO, 16, none⟩ (.int .i64 (((tt : Int) + 1))) = w3 at L ⊢
  replace L := L.drew
  refine wp_region_held_drew (S := fun w' => Loc w w' [(gR, 40, opv hd0 sc0), (gO, 40, opv ⟨A0, n0, c0, A1, n1, c1, A2, n2, c2, A3, n3, c3⟩ ⟨kind, addr, err, aad, used, phase, shard, sought, leaf, bit, word, full, ((tt : Int) + 1), tries, item, stamp⟩), (gH, 27, #[.int .u32 (a : Int), .int .i64 p, .slice A n c, .int .i64 sh, .int .i64 wo, .int .i64 qu, .int .i64 tr])] []) (by kernel_rfl) L (fun hHeld => ?_)
  generalize w3.drew = v4 at hHeld L ⊢
  refine wpAnyH_take (i := 0) (oi := ⟨some 30, _, _, _, _, _⟩) (v := .pointer (some ⟨gO, 16, none⟩)) rfl (by kernel_rfl) (by kernel_rfl) (by kernel_rfl) (fun _ _ _ h => h) (Or.inl ⟨by rfl, ?_⟩) hHeld ?_
  · (intro ww hS; go_simp; try with_reducible rfl; try omega)
  try simp only [Act.put, sA, sZ, sS]
  refine wpAnyH_take (i := 1) (oi := ⟨some 31, _, _, _, _, _⟩) (v := .int .i64 (((tt : Int) + 1))) rfl (by kernel_rfl) (by kernel_rfl) (by kernel_rfl) (fun _ _ _ h => h) (Or.inl ⟨by rfl, ?_⟩) hHeld ?_
  · intro ww hS
    try dsimp only at hS
    have O_16 := (hS).at_ 1 16 rfl (v := .int .i64 (((tt : Int) + 1))) rfl
    have O_z := (hS).lt 1 rfl
    go_simp
    try with_reducible rfl
    try omega
  try simp only [Act.put, sA, sZ, sS]
  refine wpAnyH_take (i := 2) (oi := ⟨some 32, _, _, _, _, _⟩) (v := .agg (#[.int .u32 (a : Int), .int .i64 p, .slice A n c, .int .i64 sh, .int .i64 wo, .int .i64 qu, .int .i64 tr])) rfl (by kernel_rfl) (by kernel_rfl) (by kernel_rfl) (fun _ _ _ h => h) (yieldsIf_load_row (by rfl) 27 (.tmp 4) rfl gH rfl 27 _ (0, 0) _ (fun _ hS => (hS).bk_ 2 rfl) Tryz.underlying27 rfl cf_sz) hHeld ?_
  try simp only [Act.put, sA, sZ, sS]
  refine wpAnyH_ready (rs := [3]) (by kernel_rfl) (by simp) ?_
  refine AllReadyH.cons (o := ⟨some 33, _, _, _, _, _⟩) rfl (fun K0 hK => ?_) AllReadyH.nil
  go_simp
  refine ((TV _).out).mono ?_
  rintro e w5 ⟨rfl, K'⟩
  replace L := L.over K'
  refine hK.out _ _ L (fun hHeld' => ?_)
  clear hHeld hK K0
  have hHeld := hHeld'
  clear hHeld'
  clear K'
  try simp only [Act.put, sA, sZ, sS]
  refine wpAnyH_take (i := 4) (oi := ⟨some 34, _, _, _, _, _⟩) (v := .bool true) rfl (by kernel_rfl) (by kernel_rfl) (by kernel_rfl) (fun _ _ _ h => h) (Or.inl ⟨by rfl, ?_⟩) hHeld ?_
  · (intro ww hS; go_simp; try with_reducible rfl; try omega)
  try simp only [Act.put, sA, sZ, sS]
  refine wpAnyH_done (by kernel_rfl) ?_ _
  clear hHeld
  go_wp2_with (first | (refine wpList_load_row rfl 27 (.tmp 4) rfl gH rfl _ _ (0, 0) _ (L.bk_ 2 rfl) Tryz.underlying27 rfl cf_sz ?_) | (refine wpList_load_row rfl 40 (.tmp 6) rfl gO rfl _ _ (0, 0) _ (L.bk_ 1 rfl) Tryz.underlying40 rfl op_sz ?_))
  refine (full_yes).mono ?_
  rintro e w6 ⟨rfl, K'⟩
  replace L := L.over K'
  go_wp2_with (refine wpList_store_row rfl 40 (.tmp 8) (.tmp 39) rfl gR _ rfl rfl _ _ (L.bk_ 0 rfl) op_sz rfl (opv_one _ _) ?_)
  replace L := (L.row 0 rfl (opv (swH ⟨A0, n0, c0, A1, n1, c1, A2, n2, c2, A3, n3, c3⟩) (swEn ⟨kind, addr, err, aad, used, phase, shard, sought, leaf, bit, word, full, ((tt : Int) + 1), tries, item, stamp⟩)))
  try dsimp only [nput] at L
  generalize (w6).setRow gR (opv (swH ⟨A0, n0, c0, A1, n1, c1, A2, n2, c2, A3, n3, c3⟩) (swEn ⟨kind, addr, err, aad, used, phase, shard, sought, leaf, bit, word, full, ((tt : Int) + 1), tries, item, stamp⟩)) = w7 at L ⊢
  refine bodyPost_ret (v := .tuple #[.agg (opv (swH ⟨A0, n0, c0, A1, n1, c1, A2, n2, c2, A3, n3, c3⟩) (swEn ⟨kind, addr, err, aad, used, phase, shard, sought, leaf, bit, word, full, ((tt : Int) + 1), tries, item, stamp⟩)), .bool true]) ?_ rfl ?_
  · exact results_ct (fn := Tryz.f101) Tryz.results101 _ _ gR _ _ (0, 0) _ rfl (L.bk_ 0 rfl) Tryz.underlying40 rfl op_sz
  exact ⟨_, rfl, swLists (hL.below L.K), L.K⟩
end
end Go.Proofs.YtghecdccdmeooaaGreat
