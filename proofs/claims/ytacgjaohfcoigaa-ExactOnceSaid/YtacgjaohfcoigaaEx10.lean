/-
  What the functions that these laws call answer, and what follows of it; conditions: those that each theorem names. In this file: FnMap, OpFact, RowLoc, ShardCalls, HintGuard, HintOpen, OpElse, SeekMath, HintStep, HintStA, ClaimMath, ClaimLook0, ClaimClaim, ClaimStep, WordNew, WordCells, SweepMath, SeekRun, GrantMath, GrantRef, WordCellsNew.
-/
import Derived.Test.YtacgjaohfcoigaaEx9
import Derived.Maps.OwnOps
import Derived.Maps.OwnSet
/-
  A map of function values made by the call, in memory of its own; what a look-up tells. No condition on the program.
-/
namespace Go.Proofs.Ytacgjaohfcoigaa
set_option maxRecDepth 100000
open Go.RowKit
set_option linter.unusedVariables false
/-- How a function's value reads: by its number. -/
def fnElem : Value → Option (DataW Unit × List MemPlace)
  | .func (.func k) a b => if a.size = 0 ∧ b.size = 0 then some (.lit (.int .u64 (k : Nat)), []) else none
  | .nilFunc => some (.lit (.bool false), [])
  | _ => none
theorem fnElem_mk (k : Nat) : fnElem (.func (.func k) #[] #[]) = some (.lit (.int .u64 (k : Nat)), []) := by simp [fnElem]
theorem fnElem_inv {v : Value} {k : Nat} {ps : List MemPlace} (h : fnElem v = some (.lit (.int .u64 (k : Nat)), ps)) : v = .func (.func k) #[] #[] := by
  unfold fnElem at h
  split at h
  · split at h
    · rename_i g
      simp only [Option.some.injEq, Prod.mk.injEq, DataW.lit.injEq, Lit.int.injEq, true_and] at h
      obtain ⟨h1, _⟩ := h
      have h2 := Array.eq_empty_of_size_eq_zero g.1
      have h3 := Array.eq_empty_of_size_eq_zero g.2
      have h4 : _ = k := Int.ofNat.inj h1
      subst h2 h3 h4
      rfl
    · cases h
  · simp at h
  · cases h
theorem ikey_law : Maps.Keyed Try.prog 3 := Maps.int_keyed Try.underlying3
theorem ikey {k : Int} (h : (Lit.int .i64 k).wf = true) : keyOf Try.prog 3 (.int .i64 k) = some (.int .i64 k) := Maps.keyOf_int_mk Try.underlying3 h
theorem kkey (k : Int) (h : (Lit.int .i64 k).wf = true) : WideAt.IsKeyLit (.int .i64 k) := ikey_law.key (ikey h)
/-- The map as read: keys and functions, the newest first. -/
def fD : List (Int × Nat) → DataW Unit
  | [] => .map []
  | p :: l => (fD l).put (.int .i64 p.1) (.lit (.int .u64 (p.2 : Nat)))
def fget : List (Int × Nat) → Int → Option Nat
  | [], _ => none
  | p :: l, k => if p.1 = k then some p.2 else fget l k
theorem fD_map : ∀ l : List (Int × Nat), Maps.IsMap (fD l)
  | [] => Maps.isMap_empty
  | p :: l => (fD_map l).put _ _
theorem fD_at {k : Int} (hk : (Lit.int .i64 k).wf = true) : ∀ {l : List (Int × Nat)} {f : Nat}, fget l k = some f → (fD l).atKey (.int .i64 k) (.lit (.bool false)) = .lit (.int .u64 (f : Nat)) ∧ Maps.has (fD l) (.int .i64 k) = true
  | [], f, h => by cases h
  | p :: l, f, h => by
    unfold fget at h
    by_cases e : p.1 = k
    · rw [if_pos e] at h
      injection h with h
      unfold fD
      rw [e, h]
      exact ⟨Maps.atKey_put_same (fD_map l) (kkey k hk) _ _, Maps.has_put_same (fD_map l) (kkey k hk) _⟩
    · rw [if_neg e] at h
      have hne : (Lit.int .i64 k) ≠ (Lit.int .i64 p.1) := fun h => e (by injection h with _ h; exact h.symm)
      unfold fD
      rw [Maps.atKey_put_other hne, Maps.has_put_other hne]
      exact fD_at hk h
/-- The map in memory. -/
def FMap (w : World) (gm : Nat) (l : List (Int × Nat)) : Prop := w.ownsMap Try.prog 3 fnElem gm l.length (fD l)
def mF (gm : Nat) (l : List (Int × Nat)) : Fct := ⟨fun w => FMap w gm l, fun b => b = gm⟩
theorem mF_ok (gm : Nat) (l : List (Int × Nat)) : (mF gm l).Ok :=
  ⟨fun w w' h hs hk => by
    have hlt := World.ownsMap.lt h
    obtain ⟨es, clock, hb, F, hs', hD⟩ := h
    exact ⟨es, clock, (hk gm hlt rfl).trans hb, F, hs', hD⟩, fun w b h e => by subst e; exact World.ownsMap.lt h⟩
theorem Loc.map_new {w0 w : World} {bs : List Bl} {fs : List Fct} (L : Loc w0 w bs fs) {gm lo : Nat} {l : List (Int × Nat)} (hl : ∀ i b, nth bs i = some b → b.1 < lo) (hg : lo ≤ gm) (h : FMap w gm l) : Loc w0 w bs (mF gm l :: fs) :=
  L.add _ h (mF_ok _ _) fun i b e e' => by have := hl i b e; have : b.1 = gm := e'; omega
theorem FMap.look {w : World} {gm : Nat} {l : List (Int × Nat)} (h : FMap w gm l) {mt et : TypeId} (ht : Try.prog.underlying mt = some (.map 3 et)) (hz : (zeroValue et).run Try.prog w = .ok .nilFunc w) {k : Int} {f : Nat} (hk : (Lit.int .i64 k).wf = true) (e : fget l k = some f) :
    (Instr.lookup mt (.map (some gm)) (.int .i64 k) true).run Try.prog w = .ok (.tuple #[.func (.func f) #[] #[], .bool true]) w := by
  obtain ⟨v, ps, hrun, hv⟩ := World.ownsMap.look_ok h ikey_law ht hz (zd := .lit (.bool false)) (zp := []) rfl (ikey hk)
  rw [(fD_at hk e).1] at hv
  rw [hrun, fnElem_inv hv, (fD_at hk e).2]
theorem FMap.put {w : World} {gm : Nat} {l : List (Int × Nat)} (h : FMap w gm l) {mt et : TypeId} (ht : Try.prog.underlying mt = some (.map 3 et)) (hn : l.length < 64) (k : Int) (f : Nat) (hk : (Lit.int .i64 k).wf = true) :
    ∃ w', (Instr.mapUpdate mt (.map (some gm)) (.int .i64 k) (.func (.func f) #[] #[])).run Try.prog w = .ok () w' ∧ FMap w' gm ((k, f) :: l) ∧ w.grownBy w' (some gm) :=
  World.ownsMap.update h ikey_law ht (by unfold maxLen; omega) (ikey hk) (fnElem_mk f)
end Go.Proofs.Ytacgjaohfcoigaa

/-
  An operation's four lists as one fact of what a call knows; where the lists of what is answered lie. No condition on the program.
-/
namespace Go.Proofs.Ytacgjaohfcoigaa
set_option maxRecDepth 100000
open Go.RowKit
set_option linter.unusedVariables false
/-- A block that no list of the operation lies in. -/
def HAp (k : Nat) (h : Hd) : Prop := (0 < h.n0 → Apart k h.A0) ∧ (0 < h.n1 → Apart k h.A1) ∧ (0 < h.n2 → Apart k h.A2) ∧ (0 < h.n3 → Apart k h.A3)
def oF (h : Hd) (l : Ls) : Fct := ⟨fun w => Lists 0 w h l, fun b => ¬ HAp b h⟩
/-- The lists of what is answered lie in those that came in, or in new memory. -/
def SAo (h h' : Hd) (w : World) : Prop := ∀ k, k < w.heap.size → HAp k h → HAp k h'
section
variable {w w' w0 : World} {lo : Nat} {h h' : Hd} {l : Ls} {bs : List Bl} {fs : List Fct}
theorem is_high {k : IntKind} {A : Option Addr} {n c b : Nat} {xs : List Int} (h : IS k lo w A n c xs) (hb : w.heap.size ≤ b) (hn : 0 < n) : Apart b A := fun b' o e hb' => by
  obtain ⟨b2, o2, e2, _, hl, _⟩ := h.cells hn
  rw [e] at e2; injection e2 with e2; injection e2 with e3 e4; omega
theorem is_low {k : IntKind} {A : Option Addr} {n c b : Nat} {xs : List Int} (h : IS k lo w A n c xs) (hb : b < lo) (hn : 0 < n) : Apart b A := fun b' o e hb' => by
  obtain ⟨b2, o2, e2, hl, _, _⟩ := h.cells hn
  rw [e] at e2; injection e2 with e2; injection e2 with e3 e4; omega
theorem oF_ok : (oF h l).Ok :=
  ⟨fun w w' H hs hk => ⟨IS.keep H.i0 hs fun b o hn e hb => hk b hb fun hA => hA.1 hn b o e rfl, IS.keep H.i1 hs fun b o hn e hb => hk b hb fun hA => hA.2.1 hn b o e rfl, IS.keep H.i2 hs fun b o hn e hb => hk b hb fun hA => hA.2.2.1 hn b o e rfl, IS.keep H.i3 hs fun b o hn e hb => hk b hb fun hA => hA.2.2.2 hn b o e rfl⟩,
   fun w b H hf => by
    rcases Nat.lt_or_ge b w.heap.size with hb | hb
    · exact hb
    · exact absurd ⟨is_high H.i0 hb, is_high H.i1 hb, is_high H.i2 hb, is_high H.i3 hb⟩ hf⟩
theorem lists_low (H : Lists lo w h l) {b : Nat} (hb : b < lo) : HAp b h := ⟨is_low H.i0 hb, is_low H.i1 hb, is_low H.i2 hb, is_low H.i3 hb⟩
theorem Loc.of_new (L : Loc w0 w bs fs) (hl : ∀ i b, nth bs i = some b → b.1 < lo) (H : Lists lo w h l) : Loc w0 w bs (oF h l :: fs) :=
  L.add _ (H.lower_ (Nat.zero_le _)) oF_ok fun i b e hn => hn (lists_low H (hl i b e))
theorem Loc.of_ap (L : Loc w0 w bs fs) (H : Lists 0 w h l) (hl : ∀ i b, nth bs i = some b → HAp b.1 h) : Loc w0 w bs (oF h l :: fs) :=
  L.add _ H oF_ok fun i b e hn => hn (hl i b e)
theorem Loc.of_ (L : Loc w0 w bs fs) (k : Nat) (e : nth fs k = some (oF h l)) : Lists 0 w h l := L.get k e
theorem Loc.of_av (L : Loc w0 w bs fs) (k : Nat) (e : nth fs k = some (oF h l)) : ∀ i b, nth bs i = some b → HAp b.1 h := fun i b eb => Classical.not_not.1 ((L.fc _ (nth_mem e)).2.2 i b eb)
theorem Lists.hap (H : Lists lo w0 h l) (L : Loc w0 w bs fs) : ∀ i b, nth bs i = some b → HAp b.1 h := fun i b e =>
  ⟨fun hn => IS.apart0 H.i0 hn L i b e, fun hn => IS.apart0 H.i1 hn L i b e, fun hn => IS.apart0 H.i2 hn L i b e, fun hn => IS.apart0 H.i3 hn L i b e⟩
theorem sao_new {w1 : World} (H : Lists lo w1 h' l) (hlo : w.heap.size ≤ lo) : SAo h h' w := fun k hk _ => lists_low H (Nat.lt_of_lt_of_le hk hlo)
theorem Lists.emp_ (H : Lists lo w h l) : h.n0 = l.rqs.length ∧ h.n1 = l.ads.length ∧ h.n2 = l.ers.length ∧ h.n3 = l.ses.length := ⟨H.i0.len.symm, H.i1.len.symm, H.i2.len.symm, H.i3.len.symm⟩
end
end Go.Proofs.Ytacgjaohfcoigaa

/-
  A row of the call's own among what a call knows of its memory (Loc): known with its room, so that one may be appended; what does not lie in it stays. Conditions: at most 65536 numbers.
-/
namespace Go.Proofs.Ytacgjaohfcoigaa
set_option maxRecDepth 100000
open Go.RowKit
set_option linter.unusedVariables false
/-- A row of the call's own: a value that reads as these numbers, in blocks from base on. -/
def Ri (k : IntKind) (t : TypeId) (w : World) (base : Nat) (v : Value) (n : Nat) (xs : List Int) : Prop := w.ownsRow base t 1 v n (xs.map (iv k))
section
variable {k k' : IntKind} {t : TypeId} {w w' w1 : World} {base n c lo lo' n' c' : Nat} {A A' : Option Addr} {v : Value} {xs xs' : List Int}
theorem Ri.nil (w : World) (base : Nat) : Ri k t w base (.slice none 0 0) 0 [] := World.ownsRow_nil w base t 1
theorem Ri.below (h : Ri k t w base v n xs) (K : Below w.heap.size w w') : Ri k t w' base v n xs := own_below h K
theorem Ri.is (h : Ri k t w base (.slice A n c) n xs) : IS k base w A n c xs := by
  obtain ⟨A', c', e, I⟩ := IS.of_own h
  injection e with e1 e2 e3
  subst e1; subst e3
  exact I
theorem Ri.len (h : Ri k t w base v n xs) : xs.length = n := by have := h.1; simpa using this
theorem Ri.lower (h : Ri k t w base v n xs) (hl : lo ≤ base) : Ri k t w lo v n xs := by
  refine ⟨h.1, ?_⟩
  rcases h.2 with h2 | ⟨g, cap, cur, hv, hg, r⟩
  · exact .inl h2
  · exact .inr ⟨g, cap, cur, hv, Nat.le_trans hl hg, r⟩
theorem Ri.keep (h : Ri k t w base v n xs) (hk : ∀ b, v.ownBlock = some b → b < w.heap.size → w'.heap[b]? = w.heap[b]?) : Ri k t w' base v n xs := by
  refine ⟨h.1, ?_⟩
  rcases h.2 with h2 | ⟨g, cap, cur, hv, hg, hh, r⟩
  · exact .inl h2
  · exact .inr ⟨g, cap, cur, hv, hg, (hk g (by rw [hv]; rfl) (lt_of_block hh)).trans hh, r⟩
/-- The row doesn't lie where the fact does. -/
def SepF (v : Value) (f : Fct) : Prop := ∀ b, v.ownBlock = some b → ¬ f.F b
def SepL (v : Value) (fs : List Fct) : Prop := ∀ f, f ∈ fs → SepF v f
theorem SepL.nil : SepL v [] := fun f h => by cases h
theorem SepL.cons {f : Fct} {fs : List Fct} (h : SepF v f) (hs : SepL v fs) : SepL v (f :: fs) := fun g hg => by
  rcases List.mem_cons.1 hg with rfl | hg
  · exact h
  · exact hs g hg
theorem SepF.z : SepF v (zF lo) := fun _ _ h => h
end
section
variable {w0 w : World} {bs : List Bl} {fs : List Fct} {k : IntKind} {t e : TypeId} {base n c : Nat} {A : Option Addr} {xs : List Int}
end
end Go.Proofs.Ytacgjaohfcoigaa

/-
  What each function of package shard answers, for numbers of addresses up to 65536 and 1 to 64 shards: nothing that was there is otherwise.
-/
namespace Go.Proofs.Ytacgjaohfcoigaa
set_option maxRecDepth 100000
open Go.RowKit
/-- Where the shard s begins. -/
def ct (L p s : Nat) : Nat := s * L / p
end Go.Proofs.Ytacgjaohfcoigaa

/-
  A whole block read where a guard lets it; the program isn't named here.
-/
namespace Go.Proofs.Ytacgjaohfcoigaa
set_option maxRecDepth 100000
open Go.RowKit
theorem wpList_load_want {P : Program} {ops : Array Oper} {rest : List Oper} {o : Oper} {a : Act} {w : World} {Q : Exit → Act → World → Prop} (hw : Region.wanted o (yielded ops a.tmps) = true) (ty : TypeId) (x : Operand) (ho : o.op = .load ty x)
    (g : Nat) (hx : a.eval x = .pointer (some ⟨g, 0, none⟩)) (t : TypeId) (cs : Array Value) (fr : Nat × Nat) (d : TypeDesc) (hg : w.heap[g]? = some (.cells cs t fr))
    (hu : P.underlying ty = some d) (hd : (match d with | .struct _ | .array _ _ => true | _ => false) = true) (hi : (P.info? ty).map (·.size) = some cs.size)
    (h : wpList P ops Q rest (a.put o.dst (.agg cs)) w) : wpList P ops Q (o :: rest) a w :=
  wpList_step fun K hK => by
    rw [if_pos hw]
    exact wp_load_row ty x ho g hx t cs fr d hg hu hd hi (hK _ _ h)
end Go.Proofs.Ytacgjaohfcoigaa

/-
  What a law is told of an operation that came in: its numbers, and the rows of its lists.
-/
namespace Go.Proofs.Ytacgjaohfcoigaa
set_option maxRecDepth 100000
open Go.ChangeShapes Go.WideShapes Go.ChangeAt Go.RowKit Go.Joins
set_option linter.unusedVariables false
theorem trod_struct3x {H : Type} {enc : TypeId × Value → H} {P : Program} {w : World} {base : Nat} {spare : Nat → Bool} {held : Bool} {t : TypeId} {f0 f1 f2 : Field} {fuel : Nat} {cs : List Value} {x : DataW H × List MemPlace} (ht : P.underlying t = some (.struct #[f0, f1, f2])) (h : DataW.trod enc P w base spare held fuel t cs = some x) :
    ∃ y0 y1 y2 n, DataW.trod enc P w base spare held n f0.type ((cs.drop f0.offset).take (P.cellsOf f0.type)) = some y0 ∧ DataW.trod enc P w base spare held n f1.type ((cs.drop f1.offset).take (P.cellsOf f1.type)) = some y1 ∧ DataW.trod enc P w base spare held n f2.type ((cs.drop f2.offset).take (P.cellsOf f2.type)) = some y2 := by
  obtain ⟨xs, n, _, _, _, hlen, hf⟩ := DataW.trod_struct ht h
  match xs, hlen with
  | [y0, y1, y2], _ => exact ⟨y0, y1, y2, n, by simpa using hf 0 f0 rfl, by simpa using hf 1 f1 rfl, by simpa using hf 2 f2 rfl⟩
theorem open_row {H : Type} {enc : TypeId × Value → H} {W : World} {k : IntKind} {t e : TypeId} {c : Value} {fuel : Nat} {x : DataW H × List MemPlace} (ht : Try.prog.underlying t = some (.slice e)) (he : Try.prog.underlying e = some (.int k)) (hC : Try.prog.cellsOf e = 1)
    (h : DataW.trod enc Try.prog W 0 (fun _ => true) true fuel t [c] = some x) : ∃ A n d z, c = .slice A n d ∧ IsRow k W A n d z := by
  rcases open_ints ht he hC h with ⟨hcs, _⟩ | ⟨a, l, d, zs, hcs, _, hl, hm, hz, _, hcell, hwz⟩
  · simp only [List.cons.injEq, and_true] at hcs
    exact ⟨none, 0, 0, [], hcs, .inl ⟨rfl, rfl, rfl, rfl⟩⟩
  · simp only [List.cons.injEq, and_true] at hcs
    exact ⟨_, _, _, zs, hcs, .inr ⟨_, rfl, hl, hm, by simpa using hz, hcell, hwz⟩⟩
end Go.Proofs.Ytacgjaohfcoigaa

/-
  What op.Elsewhere answers: the operation in the next shard, or at the beginning of a sweep. Conditions: numbers that fit.
-/
namespace Go.Proofs.Ytacgjaohfcoigaa
set_option maxRecDepth 100000
open Go.RowKit
set_option linter.unusedVariables false
/-- The operation whose shard has nothing: in the next one, or at the beginning of a sweep. -/
def seekS (s : Sc) : Sc := ⟨s.kind, s.addr, s.err, s.aad, s.used, 1, s.shard, s.sought + 1, s.leaf, s.bit, 0, s.full, 0, s.tries, s.item, s.stamp⟩
def firstS (s : Sc) : Sc := ⟨s.kind, s.addr, s.err, s.aad, s.used, 6, s.shard, s.sought + 1, s.leaf, s.bit, 0, s.full, 0, s.tries, s.item, s.stamp⟩
def elsS (sh : Int) (s : Sc) : Sc := if s.sought + 1 < sh then seekS s else firstS s
section
variable {w : World} {lo a M m d lf bt : Nat} {p sh wo qu tr : Int} {A B : Option Addr} {n c : Nat} {xs : List Int} {ys : List Nat} {h : Hd} {s : Sc} {l : Ls}
end
end Go.Proofs.Ytacgjaohfcoigaa

/-
  Seeking, as functions of numbers: the tops of a shard's leaves, the next one, the leaf that is found, a step. No program in it.
-/
namespace Go.Proofs.Ytacgjaohfcoigaa
set_option maxRecDepth 100000
set_option linter.unusedVariables false
/-- k numbers from t on. -/
def ups (t k : Nat) : List Nat := (List.range k).map (t + ·)
/-- How many tops the leaves from a to b - 1 are summed in. -/
def cnt_ (a b : Nat) : Nat := if a < b then (b - 1) / 64 + 1 - a / 64 else 0
def bfr (a t : Nat) : Nat := max a (64 * t) - 64 * t
def bto (b t : Nat) : Nat := min b (64 * t + 64) - 64 * t
/-- Is t a top of these leaves? -/
def inT (a b t : Nat) : Bool := decide (a / 64 ≤ t ∧ t < a / 64 + cnt_ a b)
/-- The next top, from the one at on, whose bit in x isn't set. -/
def hit (at_ x t : Nat) : Bool := decide (at_ ≤ t) && !x.testBit t
def nxt (a b at_ x : Nat) : Option Nat := (ups (a / 64) (cnt_ a b)).find? (hit at_ x)
/-- The first leaf, of those in the top t, whose bit in x isn't set. -/
def fre (a b x t : Nat) : Option Nat := if inT a b t = true then (if fb (fl_ x (bfr a t)) (bto b t) = true then some (64 * t + fi (fl_ x (bfr a t)) (bto b t)) else none) else none
def atS (s : Sc) (t : Nat) : Sc := ⟨s.kind, s.addr, s.err, s.aad, s.used, s.phase, s.shard, s.sought, s.leaf, s.bit, s.word, s.full, ((t + 1 : Nat) : Int), s.tries, s.item, s.stamp⟩
def wdS (s : Sc) (x : Nat) : Sc := ⟨s.kind, s.addr, s.err, s.aad, s.used, s.phase, s.shard, s.sought, s.leaf, s.bit, x, s.full, s.at_, s.tries, s.item, s.stamp⟩
def foundS (s : Sc) (i : Nat) : Sc := ⟨s.kind, s.addr, s.err, s.aad, s.used, 2, s.shard, s.sought, (i : Int), s.bit, 0, s.full, 0, s.tries, s.item, s.stamp⟩
def onS (sh : Int) (a b : Nat) (s : Sc) : Sc := match nxt a b s.at_.toNat s.word with | some t => atS s t | none => elsS sh s
/-- A step of seeking: a, b the leaves of the shard that is sought. -/
def skS (sh : Int) (M : Nat) (ys : List Nat) (a b : Nat) (s : Sc) : Sc :=
  if s.at_ = 0 then onS sh a b (wdS s (gt ys (lv M + tv M))) else match fre a b (gt ys (lv M + (s.at_.toNat - 1))) (s.at_.toNat - 1) with | some i => foundS s i | none => onS sh a b s
end Go.Proofs.Ytacgjaohfcoigaa

/-
  What hint.Step answers: the cells and the operation behind a step of marking. Conditions: a configuration that may be, as many cells as there are, an operation whose leaf there is, with At 0 or 1 and Phase 4 or 5, at most 65536 addresses, all the block's, and at most 65536 items in its lists.
-/
namespace Go.Proofs.Ytacgjaohfcoigaa
set_option maxRecDepth 100000
open Go.RowKit
set_option linter.unusedVariables false
def UL (lo : Nat) (w : World) (A : Option Addr) (n c : Nat) (xs : List Nat) : Prop := US w A n c xs ∧ ∀ b o, A = some ⟨b, o, none⟩ → lo ≤ b
section
variable {lo : Nat} {w w' : World} {A : Option Addr} {n c : Nat} {xs : List Nat}
theorem UL.below (h : UL lo w A n c xs) (K : Below w.heap.size w w') : UL lo w' A n c xs := ⟨h.1.below K, h.2⟩
theorem UL.set_low (h : UL lo w A n c xs) {p : Addr} (hp : p.block < lo) (u : Value) : UL lo (w.setCell p u) A n c xs :=
  ⟨h.1.keep (by simp [World.setCell]) (fun b o e _ => Below.heap_setCell w p u b (by have := h.2 b o e; omega)), h.2⟩
theorem UL.set_row (h : UL lo w A n c xs) {g : Nat} (hg : g < lo) (u : Array Value) : UL lo (w.setRow g u) A n c xs :=
  ⟨h.1.keep (by simp) (fun b o e _ => setRow_other w g b u (by have := h.2 b o e; omega)), h.2⟩
end
theorem results_tc {P : Program} {fn : Func} {q p : Tmp} {ty : TypeId} (h : fn.results = #[.tmp q, .cell p ty]) (tmps : Array Value) (w : World) (g : Nat) (t : TypeId) (cs : Array Value) (fr : Nat × Nat) (d : TypeDesc)
    (hp : tmps.getD p undef = .pointer (some ⟨g, 0, none⟩)) (hg : w.heap[g]? = some (.cells cs t fr))
    (hu : P.underlying ty = some d) (hd : (match d with | .struct _ | .array _ _ => true | _ => false) = true) (hi : (P.info? ty).map (·.size) = some cs.size) :
    (results fn tmps).run P w = .ok (.tuple #[tmps.getD q undef, .agg cs]) w := by
  have hp' : tmps[p]?.getD undef = .pointer (some ⟨g, 0, none⟩) := by simpa using hp
  simp [results, h, hp', asAddr, run_loadVar_row w g t ty cs fr d hg hu hd hi]
def RetStep (h : Hd) (s : Sc) (l : Ls) (m : Nat) (ys : List Nat) (B0 : Option Addr) (w : World) (e : Ending) (w' : World) : Prop := ∃ A0 c0 A1 c1 A2 c2 A3 c3 B d, e = .returned (.tuple #[.slice B m d, .agg (opv ⟨A0, h.n0, c0, A1, h.n1, c1, A2, h.n2, c2, A3, h.n3, c3⟩ s)]) ∧ US w' B m d ys ∧ Lists w.heap.size w' ⟨A0, h.n0, c0, A1, h.n1, c1, A2, h.n2, c2, A3, h.n3, c3⟩ l ∧ (∀ k, k < w.heap.size → Apart k B0 → Apart k B) ∧ Below w.heap.size w w'
section
variable {w : World} {lo lo2 a M m d cl b lf : Nat} {p sh wo qu tr : Int} {A B : Option Addr} {n c : Nat} {xs : List Int} {ys : List Nat} {h : Hd} {s : Sc} {l : Ls}
set_option maxHeartbeats 2000000 in
theorem step4_0 (ha : a < 4294967296) (hM : Much a p M) (hn : h.n0 ≤ 65536) (hI : IS .u32 lo w h.A0 h.n0 h.c0 xs) (hin : s.kind = 4 → InB a M h.n0 xs) (L : Lists lo2 w h l) (h1 : h.n1 ≤ 65536) (h2 : h.n2 ≤ 65536) (h3 : h.n3 ≤ 65536) (hU : US w B m d ys) (hm : m ≤ 65536) (hlf : s.leaf = (lf : Int)) (hlv : lf < lv M) (hcm : cl < m) (hb2 : b < 64) (hw : s.word < 18446744073709551616) (hcl : cl = lv M + lf / 64) (hb : b = lf % 64) (hat : s.at_ = 0) (hph : s.phase = 4) :
    Calls Try.prog 72 #[.agg #[.int .u32 a, .int .i64 p, .slice A n c, .int .i64 sh, .int .i64 wo, .int .i64 qu, .int .i64 tr], .slice B m d, .agg (opv h s)] w (RetStep h (lk a h.n0 xs s (gt ys cl) b) l m ys B w) := by
  have hl3 := lv_le hM.most
  have T0 := fun w (L : Lists lo2 w h l) => Lib.hid (own_any (s := s) L hn h1 h2 h3)
  have hx := Lib.hid (L.i0.uniq hI)
  have TS := fun w => Lib.hid (summaries_any (w := w) (sh := sh) (wo := wo) (qu := qu) (tr := tr) (A := A) (n := n) (c := c) (leaf := (lf : Int)) ha hM)
  have TC : ∀ (w : World) gN gE (_ : w.cell? ⟨gN, 0, none⟩ = some (.int .i64 (M : Nat))) (_ : w.cell? ⟨gE, 0, none⟩ = some (.int .i64 (lf : Nat))), Hid (Calls Try.prog 83 #[.pointer (some ⟨gN, 0, none⟩), .pointer (some ⟨gE, 0, none⟩)] w fun e w' => e = .returned (.tuple #[.int .i64 (cl : Nat), .int .i64 (b : Nat)]) ∧ w = w') := fun w gN gE hN hE => by rw [hcl, hb]; exact clo1_any hN hE hM.most (by omega)
  have TK := fun w lo A0 c0 A1 c1 A2 c2 A3 c3 (hI : IS .u32 lo w A0 h.n0 c0 xs) => Lib.hid (look_any (w := w) (sh := sh) (wo := wo) (qu := qu) (tr := tr) (A := A) (n := n) (c := c) (h := ⟨A0, h.n0, c0, A1, h.n1, c1, A2, h.n2, c2, A3, h.n3, c3⟩) (s := s) (x := gt ys cl) (b := b) ha hM hn hI hin (gt_lt hU.fit cl) hb2)
  have TL := fun w (U : US w B m d ys) => Lib.hid (load_nat U cl hcm)
  clear hcl hb
  rcases s with ⟨kind, addr, err, aad, used, phase, shard, sought, leaf, bit, word, full, at_, tries, item, stamp⟩
  rcases h with ⟨A0, n0, c0, A1, n1, c1, A2, n2, c2, A3, n3, c3⟩
  dsimp only at *
  subst hlf hat hph
  go_enter Try.func72, Try.ntmps72
  go_upto_region 1 with (fail)
  have K := below_alloc w (.cells #[.int .u32 a, .int .i64 p, .slice A n c, .int .i64 sh, .int .i64 wo, .int .i64 qu, .int .i64 tr] 27)
  have H : Bk (World.alloc (w) (.cells #[.int .u32 a, .int .i64 p, .slice A n c, .int .i64 sh, .int .i64 wo, .int .i64 qu, .int .i64 tr] 27)) (World.heap (w)).size 27 (#[.int .u32 a, .int .i64 p, .slice A n c, .int .i64 sh, .int .i64 wo, .int .i64 qu, .int .i64 tr]) := Bk.new _ _ _
  replace H := H.alloc (.cells (opv ⟨A0, n0, c0, A1, n1, c1, A2, n2, c2, A3, n3, c3⟩ ⟨kind, addr, err, aad, used, 4, shard, sought, (lf : Int), bit, word, full, 0, tries, item, stamp⟩) 44)
  replace K := Below.then_ K (below_alloc _ (.cells (opv ⟨A0, n0, c0, A1, n1, c1, A2, n2, c2, A3, n3, c3⟩ ⟨kind, addr, err, aad, used, 4, shard, sought, (lf : Int), bit, word, full, 0, tries, item, stamp⟩) 44))
  have O : Bk (World.alloc ((w).alloc (.cells #[.int .u32 a, .int .i64 p, .slice A n c, .int .i64 sh, .int .i64 wo, .int .i64 qu, .int .i64 tr] 27)) (.cells (opv ⟨A0, n0, c0, A1, n1, c1, A2, n2, c2, A3, n3, c3⟩ ⟨kind, addr, err, aad, used, 4, shard, sought, (lf : Int), bit, word, full, 0, tries, item, stamp⟩) 44)) (World.heap ((w).alloc (.cells #[.int .u32 a, .int .i64 p, .slice A n c, .int .i64 sh, .int .i64 wo, .int .i64 qu, .int .i64 tr] 27))).size 44 (opv ⟨A0, n0, c0, A1, n1, c1, A2, n2, c2, A3, n3, c3⟩ ⟨kind, addr, err, aad, used, 4, shard, sought, (lf : Int), bit, word, full, 0, tries, item, stamp⟩) := Bk.new _ _ _
  replace H := H.alloc (.cells #[.int .i64 0, .int .u32 0, .slice none 0 0, .int .i64 0, .int .u32 0, .bool false, .slice none 0 0, .slice none 0 0, .int .i64 0, .int .i64 0, .int .i64 0, .int .i64 0, .int .i64 0, .int .u64 0, .bool false, .slice none 0 0, .int .i64 0, .int .i64 0, .int .i64 0, .int .i64 0] 44)
  replace O := O.alloc (.cells #[.int .i64 0, .int .u32 0, .slice none 0 0, .int .i64 0, .int .u32 0, .bool false, .slice none 0 0, .slice none 0 0, .int .i64 0, .int .i64 0, .int .i64 0, .int .i64 0, .int .i64 0, .int .u64 0, .bool false, .slice none 0 0, .int .i64 0, .int .i64 0, .int .i64 0, .int .i64 0] 44)
  replace K := Below.then_ K (below_alloc _ (.cells #[.int .i64 0, .int .u32 0, .slice none 0 0, .int .i64 0, .int .u32 0, .bool false, .slice none 0 0, .slice none 0 0, .int .i64 0, .int .i64 0, .int .i64 0, .int .i64 0, .int .i64 0, .int .u64 0, .bool false, .slice none 0 0, .int .i64 0, .int .i64 0, .int .i64 0, .int .i64 0] 44))
  have R : Bk (World.alloc (((w).alloc (.cells #[.int .u32 a, .int .i64 p, .slice A n c, .int .i64 sh, .int .i64 wo, .int .i64 qu, .int .i64 tr] 27)).alloc (.cells (opv ⟨A0, n0, c0, A1, n1, c1, A2, n2, c2, A3, n3, c3⟩ ⟨kind, addr, err, aad, used, 4, shard, sought, (lf : Int), bit, word, full, 0, tries, item, stamp⟩) 44)) (.cells #[.int .i64 0, .int .u32 0, .slice none 0 0, .int .i64 0, .int .u32 0, .bool false, .slice none 0 0, .slice none 0 0, .int .i64 0, .int .i64 0, .int .i64 0, .int .i64 0, .int .i64 0, .int .u64 0, .bool false, .slice none 0 0, .int .i64 0, .int .i64 0, .int .i64 0, .int .i64 0] 44)) (World.heap (((w).alloc (.cells #[.int .u32 a, .int .i64 p, .slice A n c, .int .i64 sh, .int .i64 wo, .int .i64 qu, .int .i64 tr] 27)).alloc (.cells (opv ⟨A0, n0, c0, A1, n1, c1, A2, n2, c2, A3, n3, c3⟩ ⟨kind, addr, err, aad, used, 4, shard, sought, (lf : Int), bit, word, full, 0, tries, item, stamp⟩) 44))).size 44 (opv hd0 sc0) := Bk.new _ _ _
  try simp only [World.size_alloc] at H O R
  generalize (((w).alloc (.cells #[.int .u32 a, .int .i64 p, .slice A n c, .int .i64 sh, .int .i64 wo, .int .i64 qu, .int .i64 tr] 27)).alloc (.cells (opv ⟨A0, n0, c0, A1, n1, c1, A2, n2, c2, A3, n3, c3⟩ ⟨kind, addr, err, aad, used, 4, shard, sought, (lf : Int), bit, word, full, 0, tries, item, stamp⟩) 44)).alloc (.cells #[.int .i64 0, .int .u32 0, .slice none 0 0, .int .i64 0, .int .u32 0, .bool false, .slice none 0 0, .slice none 0 0, .int .i64 0, .int .i64 0, .int .i64 0, .int .i64 0, .int .i64 0, .int .u64 0, .bool false, .slice none 0 0, .int .i64 0, .int .i64 0, .int .i64 0, .int .i64 0] 44) = w1 at H O R K ⊢
  obtain ⟨gR, hgR⟩ : ∃ g, g = w.heap.size + 1 + 1 := ⟨_, rfl⟩
  rw [← hgR] at R ⊢
  obtain ⟨gO, hgO⟩ : ∃ g, g = w.heap.size + 1 := ⟨_, rfl⟩
  rw [← hgO] at O ⊢
  obtain ⟨gH, hgH⟩ : ∃ g, g = w.heap.size := ⟨_, rfl⟩
  rw [← hgH] at H ⊢
  have H_b : w.heap.size ≤ gH := by omega
  have O_b : w.heap.size ≤ gO := by omega
  have R_b : w.heap.size ≤ gR := by omega
  have ne_H_O : gH ≠ gO := by omega
  have ne_H_R : gH ≠ gR := by omega
  have ne_O_R : gO ≠ gR := by omega
  clear hgH hgO hgR
  go_wp2_with (refine wpList_load_row rfl 44 (.tmp 5) rfl gO rfl _ _ (0, 0) _ O Try.underlying44 rfl op_sz ?_)
  refine ((T0 _ (L.below K)).out).mono ?_
  have hOlo := O.lt
  have hRlo := R.lt
  have KS1 := K.size
  rintro e w2 ⟨A0', c0', A1', c1', A2', c2', A3', c3', rfl, L', K'⟩
  replace H := H.below K'
  replace O := O.below K'
  replace R := R.below K'
  replace K := Below.then_ K K'
  clear K'
  generalize w1.heap.size = lo1 at L' hOlo hRlo KS1
  go_upto_region 2 with (refine wpList_store_row rfl 44 (.tmp 5) (.tmp 13) rfl gO _ rfl rfl _ _ O op_sz rfl (opv_one _ _) ?_)
  replace H := H.row_far ne_H_O (opv ⟨A0', n0, c0', A1', n1, c1', A2', n2, c2', A3', n3, c3'⟩ ⟨kind, addr, err, aad, used, 4, shard, sought, (lf : Int), bit, word, full, 0, tries, item, stamp⟩)
  replace R := R.row_far (Ne.symm ne_O_R) (opv ⟨A0', n0, c0', A1', n1, c1', A2', n2, c2', A3', n3, c3'⟩ ⟨kind, addr, err, aad, used, 4, shard, sought, (lf : Int), bit, word, full, 0, tries, item, stamp⟩)
  replace O := O.row (opv ⟨A0', n0, c0', A1', n1, c1', A2', n2, c2', A3', n3, c3'⟩ ⟨kind, addr, err, aad, used, 4, shard, sought, (lf : Int), bit, word, full, 0, tries, item, stamp⟩)
  replace L' := L'.set_row hOlo (opv ⟨A0', n0, c0', A1', n1, c1', A2', n2, c2', A3', n3, c3'⟩ ⟨kind, addr, err, aad, used, 4, shard, sought, (lf : Int), bit, word, full, 0, tries, item, stamp⟩)
  replace K := below_setRow K O_b (opv ⟨A0', n0, c0', A1', n1, c1', A2', n2, c2', A3', n3, c3'⟩ ⟨kind, addr, err, aad, used, 4, shard, sought, (lf : Int), bit, word, full, 0, tries, item, stamp⟩)
  generalize w2.setRow gO (opv ⟨A0', n0, c0', A1', n1, c1', A2', n2, c2', A3', n3, c3'⟩ ⟨kind, addr, err, aad, used, 4, shard, sought, (lf : Int), bit, word, full, 0, tries, item, stamp⟩) = w3 at H O R L' K ⊢
  have O_11 := O.at_ (v := .int .i64 (lf : Int)) 11 rfl
  have O_z := O.lt
  go_wp2_with (refine wpList_load_row rfl 27 (.tmp 3) rfl gH rfl _ _ (0, 0) _ H Try.underlying27 rfl cf_sz ?_)
  refine ((TS _).out).mono ?_
  rintro e w4 ⟨gN, gE, rfl, N, E, hgN, hgE, K'⟩
  clear O_11 O_z hgN hgE
  replace H := H.below K'
  replace O := O.below K'
  replace R := R.below K'
  replace L' := L'.below K'
  replace K := Below.then_ K K'
  clear K'
  have H_lt := H.lt
  have O_lt := O.lt
  have R_lt := R.lt
  have N_lt := N.lt
  have E_lt := E.lt
  have KS := K.size
  go_upto_region 3 with (refine wpList_store_row rfl 101 (.tmp 8) (.tmp 17) rfl _ _ rfl rfl _ _ (Bk.new _ _ _) ar_sz rfl (ar_one _ _) ?_)
  rw [World.setRow_alloc_new]
  replace H := H.alloc (.cells (clos gN gE) 101)
  replace O := O.alloc (.cells (clos gN gE) 101)
  replace R := R.alloc (.cells (clos gN gE) 101)
  replace N := N.alloc (.cells (clos gN gE) 101)
  replace E := E.alloc (.cells (clos gN gE) 101)
  replace L' := L'.below (below_alloc _ (.cells (clos gN gE) 101))
  replace K := Below.then_ K (below_alloc _ (.cells (clos gN gE) 101))
  have V : Bk (World.alloc (w4) (.cells (clos gN gE) 101)) (World.heap (w4)).size 101 (clos gN gE) := Bk.new _ _ _
  try simp only [World.size_alloc] at V
  generalize (w4).alloc (.cells (clos gN gE) 101) = w5 at H O R N E V L' K ⊢
  obtain ⟨gV, hgV⟩ : ∃ g, g = w4.heap.size := ⟨_, rfl⟩
  rw [← hgV] at V ⊢
  have V_b : w.heap.size ≤ gV := by have := KS; omega
  have ne_H_V : gH ≠ gV := by have := H_lt; omega
  have ne_O_V : gO ≠ gV := by have := O_lt; omega
  have ne_R_V : gR ≠ gV := by have := R_lt; omega
  have ne_N_V : gN ≠ gV := by have := N_lt; omega
  have ne_E_V : gE ≠ gV := by have := E_lt; omega
  clear hgV
  clear H_lt O_lt R_lt N_lt E_lt KS
  have O_16 := O.at_ (v := .int .i64 0) 16 rfl
  have O_z := O.lt
  have V_0 := V.at_ (v := .func (.func 83) #[] #[.pointer (some ⟨gN, 0, none⟩), .pointer (some ⟨gE, 0, none⟩)]) 0 rfl
  have V_z := V.lt
  go_upto_region 6 with ((with_reducible refine ((TC _ _ _ (N.at_ (v := .int .i64 M) 0 rfl) (E.at_ (v := .int .i64 lf) 0 rfl)).out).mono ?_); rintro e w' ⟨rfl, rfl⟩)
  clear O_16 O_z V_0 V_z N E V ne_H_V ne_O_V ne_R_V ne_N_V ne_E_V V_b TC TS T0
  have O_8 := O.at_ (v := .int .i64 4) 8 rfl
  have O_z := O.lt
  go_upto_region 8 with (fail)
  clear O_8 O_z
  refine wp_region_held_drew (S := fun w' => Below w.heap.size w w' ∧ Bk w' gH 27 (#[.int .u32 a, .int .i64 p, .slice A n c, .int .i64 sh, .int .i64 wo, .int .i64 qu, .int .i64 tr]) ∧ Bk w' gO 44 (opv ⟨A0', n0, c0', A1', n1, c1', A2', n2, c2', A3', n3, c3'⟩ ⟨kind, addr, err, aad, used, 4, shard, sought, (lf : Int), bit, word, full, 0, tries, item, stamp⟩) ∧ (∃ v : Array Value, v.size = 20 ∧ Bk w' gR 44 v) ∧ Lists lo1 w' ⟨A0', n0, c0', A1', n1, c1', A2', n2, c2', A3', n3, c3'⟩ l ∧ True) (by kernel_rfl) ⟨K.drew, H.below ((Below.refl _ _).drew), O.below ((Below.refl _ _).drew), ⟨_, rfl, R.below ((Below.refl _ _).drew)⟩, L'.below ((Below.refl _ _).drew), trivial⟩ (fun hHeld => ?_)
  generalize w5.drew = v6 at hHeld ⊢
  refine wpAnyH_take (i := 0) (oi := ⟨some 40, _, _, _, _, _⟩) (v := ?_) rfl (by kernel_rfl) (by kernel_rfl) (by kernel_rfl) (fun _ _ _ h => h) (Or.inl ⟨by rfl, ?_⟩) hHeld ?_
  rotate_left
  · intro ww hSw
    try dsimp only at hSw
    go_simp
    try with_reducible rfl
    try omega
  try simp only [Act.put, List.setIfInBounds_toArray, List.set_cons_zero, List.set_cons_succ]
  refine wpAnyH_take (i := 1) (oi := ⟨some 41, _, _, _, _, _⟩) (v := .agg (#[.int .u32 a, .int .i64 p, .slice A n c, .int .i64 sh, .int .i64 wo, .int .i64 qu, .int .i64 tr])) rfl (by kernel_rfl) (by kernel_rfl) (by kernel_rfl) (fun _ _ _ h => h) (yieldsIf_load_row (by rfl) 27 (.tmp 3) rfl gH rfl 27 _ (0, 0) _ (fun _ hS => hS.2.1) Try.underlying27 rfl cf_sz) hHeld ?_
  try simp only [Act.put, List.setIfInBounds_toArray, List.set_cons_zero, List.set_cons_succ]
  refine wpAnyH_take (i := 2) (oi := ⟨some 42, _, _, _, _, _⟩) (v := .agg (opv ⟨A0', n0, c0', A1', n1, c1', A2', n2, c2', A3', n3, c3'⟩ ⟨kind, addr, err, aad, used, 4, shard, sought, (lf : Int), bit, word, full, 0, tries, item, stamp⟩)) rfl (by kernel_rfl) (by kernel_rfl) (by kernel_rfl) (fun _ _ _ h => h) (yieldsIf_load_row (by rfl) 44 (.tmp 5) rfl gO rfl 44 _ (0, 0) _ (fun _ hS => hS.2.2.1) Try.underlying44 rfl op_sz) hHeld ?_
  try simp only [Act.put, List.setIfInBounds_toArray, List.set_cons_zero, List.set_cons_succ]
  refine wpAnyH_take (i := 3) (oi := ⟨some 43, _, _, _, _, _⟩) (v := ?_) rfl (by kernel_rfl) (by kernel_rfl) (by kernel_rfl) (fun _ _ _ h => h) (Or.inl ⟨by rfl, ?_⟩) hHeld ?_
  rotate_left
  · intro ww hSw
    try dsimp only at hSw
    go_simp
    try with_reducible rfl
    try omega
  try simp only [Act.put, List.setIfInBounds_toArray, List.set_cons_zero, List.set_cons_succ]
  refine wpAnyH_take (i := 4) (oi := ⟨some 44, _, _, _, _, _⟩) (v := ?_) rfl (by kernel_rfl) (by kernel_rfl) (by kernel_rfl) (fun _ _ _ h => h) (Or.inl ⟨by rfl, ?_⟩) hHeld ?_
  rotate_left
  · intro ww hSw
    try dsimp only at hSw
    go_simp
    try with_reducible rfl
    try omega
  try simp only [Act.put, List.setIfInBounds_toArray, List.set_cons_zero, List.set_cons_succ]
  refine wpAnyH_take (i := 6) (oi := ⟨some 46, _, _, _, _, _⟩) (v := ?_) rfl (by kernel_rfl) (by kernel_rfl) (by kernel_rfl) (fun _ _ _ h => h) (Or.inl ⟨by rfl, ?_⟩) hHeld ?_
  rotate_left
  · intro ww hSw
    try dsimp only at hSw
    go_simp
    try with_reducible rfl
    try omega
  try simp only [Act.put, List.setIfInBounds_toArray, List.set_cons_zero, List.set_cons_succ]
  refine wpAnyH_ready (rs := [5]) (by kernel_rfl) (by simp) ?_
  refine AllReadyH.cons (o := ⟨some 45, _, _, _, _, _⟩) rfl (fun K0 hK => ?_) AllReadyH.nil
  go_simp
  refine ((TL _ (hU.below hHeld.1)).out).mono ?_
  rintro e _ ⟨rfl, rfl⟩
  refine hK.out _ _ hHeld (fun hHeld' => ?_)
  clear hHeld hK K0
  have hHeld := hHeld'
  clear hHeld'
  try simp only [Act.put, List.setIfInBounds_toArray, List.set_cons_zero, List.set_cons_succ]
  refine wpAnyH_ready (rs := [7]) (by kernel_rfl) (by simp) ?_
  refine AllReadyH.cons (o := ⟨some 47, _, _, _, _, _⟩) rfl (fun K0 hK => ?_) AllReadyH.nil
  go_simp
  refine ((TK _ _ A0' c0' A1' c1' A2' c2' A3' c3' (hHeld.2.2.2.2.1.asked hx.out)).out).mono ?_
  rintro e v7 ⟨rfl, K'⟩
  refine hK.out _ _ ⟨Below.then_ hHeld.1 K', hHeld.2.1.below K', hHeld.2.2.1.below K', ⟨_, hHeld.2.2.2.1.choose_spec.1, hHeld.2.2.2.1.choose_spec.2.below K'⟩, hHeld.2.2.2.2.1.below K', trivial⟩ (fun hHeld' => ?_)
  clear hHeld K' hK K0
  have hHeld := hHeld'
  clear hHeld'
  try simp only [Act.put, List.setIfInBounds_toArray, List.set_cons_zero, List.set_cons_succ]
  refine wpAnyH_take (i := 8) (oi := ⟨some 6, _, _, _, _, _⟩) (v := ?_) rfl (by kernel_rfl) (by kernel_rfl) (by kernel_rfl) (fun _ _ _ h => h) (Or.inl ⟨by rfl, ?_⟩) hHeld ?_
  rotate_left
  · intro ww hSw
    try dsimp only at hSw
    go_simp
    try with_reducible rfl
    try omega
  try simp only [Act.put, List.setIfInBounds_toArray, List.set_cons_zero, List.set_cons_succ]
  refine wpAnyH_ready (rs := [9]) (by kernel_rfl) (by simp) ?_
  refine AllReadyH.cons (o := ⟨none, _, _, _, _, _⟩) rfl (fun K0 hK => ?_) AllReadyH.nil
  rw [if_pos (by rfl)]
  refine wp_store_row 44 (.tmp 7) (.tmp 47) rfl gR _ rfl rfl _ _ hHeld.2.2.2.1.choose_spec.2 op_sz hHeld.2.2.2.1.choose_spec.1 (opv_one _ _) ?_
  have new_R := Bk.row hHeld.2.2.2.1.choose_spec.2 (opv ⟨A0', n0, c0', A1', n1, c1', A2', n2, c2', A3', n3, c3'⟩ (lk a n0 xs ⟨kind, addr, err, aad, used, 4, shard, sought, (lf : Int), bit, word, full, 0, tries, item, stamp⟩ (gt ys cl) b))
  refine hK.out _ _ ⟨below_setRow hHeld.1 R_b _, hHeld.2.1.row_far ne_H_R _, hHeld.2.2.1.row_far ne_O_R _, ⟨_, rfl, new_R⟩, hHeld.2.2.2.2.1.set_row hRlo _, trivial⟩ (fun hHeld' => ?_)
  clear hHeld hK K0
  have hHeld := hHeld'
  clear hHeld'
  generalize v7.setRow gR (opv ⟨A0', n0, c0', A1', n1, c1', A2', n2, c2', A3', n3, c3'⟩ (lk a n0 xs ⟨kind, addr, err, aad, used, 4, shard, sought, (lf : Int), bit, word, full, 0, tries, item, stamp⟩ (gt ys cl) b)) = v8 at hHeld new_R  ⊢
  try simp only [Act.put]
  refine wpAnyH_done (by kernel_rfl) ?_ _
  replace K := hHeld.1
  replace H := hHeld.2.1
  replace O := hHeld.2.2.1
  replace R := new_R
  clear new_R
  replace L' := hHeld.2.2.2.2.1
  clear hHeld
  go_wp2
  refine bodyPost_ret (v := .tuple #[.slice B m d, .agg (opv ⟨A0', n0, c0', A1', n1, c1', A2', n2, c2', A3', n3, c3'⟩ (lk a n0 xs ⟨kind, addr, err, aad, used, 4, shard, sought, (lf : Int), bit, word, full, 0, tries, item, stamp⟩ (gt ys cl) b))]) ?_ rfl ?_
  · exact results_tc (fn := Try.f72) Try.results72 _ _ gR _ _ (0, 0) _ rfl R Try.underlying44 rfl op_sz
  exact ⟨_, _, _, _, _, _, _, _, _, _, rfl, hU.below K, L'.lower KS1, (fun _ _ h => h), K⟩
set_option maxHeartbeats 2000000 in
theorem step5_0_y (ha : a < 4294967296) (hM : Much a p M) (hn : h.n0 ≤ 65536) (hI : IS .u32 lo w h.A0 h.n0 h.c0 xs) (hin : s.kind = 4 → InB a M h.n0 xs) (L : Lists lo2 w h l) (h1 : h.n1 ≤ 65536) (h2 : h.n2 ≤ 65536) (h3 : h.n3 ≤ 65536) (hU : US w B m d ys) (hm : m ≤ 65536) (hlf : s.leaf = (lf : Int)) (hlv : lf < lv M) (hcm : cl < m) (hb2 : b < 64) (hw : s.word < 18446744073709551616) (hcl : cl = lv M + lf / 64) (hb : b = lf % 64) (hat : s.at_ = 0) (hph : s.phase = 5) (heq : gt ys cl = s.word) :
    Calls Try.prog 72 #[.agg #[.int .u32 a, .int .i64 p, .slice A n c, .int .i64 sh, .int .i64 wo, .int .i64 qu, .int .i64 tr], .slice B m d, .agg (opv h s)] w (RetStep h (dn a h.n0 xs (worded s (mkd s.word b s.full))) l m (ys.set cl (mkd s.word b s.full)) B w) := by
  have hl3 := lv_le hM.most
  have T0 := fun w (L : Lists lo2 w h l) => Lib.hid (own_any (s := s) L hn h1 h2 h3)
  have hx := Lib.hid (L.i0.uniq hI)
  have TS := fun w => Lib.hid (summaries_any (w := w) (sh := sh) (wo := wo) (qu := qu) (tr := tr) (A := A) (n := n) (c := c) (leaf := (lf : Int)) ha hM)
  have TC : ∀ (w : World) gN gE (_ : w.cell? ⟨gN, 0, none⟩ = some (.int .i64 (M : Nat))) (_ : w.cell? ⟨gE, 0, none⟩ = some (.int .i64 (lf : Nat))), Hid (Calls Try.prog 83 #[.pointer (some ⟨gN, 0, none⟩), .pointer (some ⟨gE, 0, none⟩)] w fun e w' => e = .returned (.tuple #[.int .i64 (cl : Nat), .int .i64 (b : Nat)]) ∧ w = w') := fun w gN gE hN hE => by rw [hcl, hb]; exact clo1_any hN hE hM.most (by omega)
  have TM := fun w => Lib.hid (marked_any s.word b s.full hw hb2 w)
  have hy := mkd_lt s.full hw hb2
  obtain ⟨y, hy1⟩ : ∃ y, y = mkd s.word b s.full := ⟨_, rfl⟩
  rw [← hy1] at TM hy
  have TD := fun w lo A0 c0 A1 c1 A2 c2 A3 c3 (hI : IS .u32 lo w A0 h.n0 c0 xs) => Lib.hid (done_any (w := w) (sh := sh) (wo := wo) (qu := qu) (tr := tr) (A := A) (n := n) (c := c) (h := ⟨A0, h.n0, c0, A1, h.n1, c1, A2, h.n2, c2, A3, h.n3, c3⟩) (s := worded s y) ha hM hn hI hin)
  rw [← hy1]
  clear hy1
  have TW := fun w (U : US w B m d ys) => Lib.hid (heq ▸ swap_new U hcm hm hy)
  clear heq
  clear hcl hb
  rcases s with ⟨kind, addr, err, aad, used, phase, shard, sought, leaf, bit, word, full, at_, tries, item, stamp⟩
  rcases h with ⟨A0, n0, c0, A1, n1, c1, A2, n2, c2, A3, n3, c3⟩
  dsimp only at *
  subst hlf hat hph
  go_enter Try.func72, Try.ntmps72
  go_upto_region 1 with (fail)
  have K := below_alloc w (.cells #[.int .u32 a, .int .i64 p, .slice A n c, .int .i64 sh, .int .i64 wo, .int .i64 qu, .int .i64 tr] 27)
  have H : Bk (World.alloc (w) (.cells #[.int .u32 a, .int .i64 p, .slice A n c, .int .i64 sh, .int .i64 wo, .int .i64 qu, .int .i64 tr] 27)) (World.heap (w)).size 27 (#[.int .u32 a, .int .i64 p, .slice A n c, .int .i64 sh, .int .i64 wo, .int .i64 qu, .int .i64 tr]) := Bk.new _ _ _
  replace H := H.alloc (.cells (opv ⟨A0, n0, c0, A1, n1, c1, A2, n2, c2, A3, n3, c3⟩ ⟨kind, addr, err, aad, used, 5, shard, sought, (lf : Int), bit, word, full, 0, tries, item, stamp⟩) 44)
  replace K := Below.then_ K (below_alloc _ (.cells (opv ⟨A0, n0, c0, A1, n1, c1, A2, n2, c2, A3, n3, c3⟩ ⟨kind, addr, err, aad, used, 5, shard, sought, (lf : Int), bit, word, full, 0, tries, item, stamp⟩) 44))
  have O : Bk (World.alloc ((w).alloc (.cells #[.int .u32 a, .int .i64 p, .slice A n c, .int .i64 sh, .int .i64 wo, .int .i64 qu, .int .i64 tr] 27)) (.cells (opv ⟨A0, n0, c0, A1, n1, c1, A2, n2, c2, A3, n3, c3⟩ ⟨kind, addr, err, aad, used, 5, shard, sought, (lf : Int), bit, word, full, 0, tries, item, stamp⟩) 44)) (World.heap ((w).alloc (.cells #[.int .u32 a, .int .i64 p, .slice A n c, .int .i64 sh, .int .i64 wo, .int .i64 qu, .int .i64 tr] 27))).size 44 (opv ⟨A0, n0, c0, A1, n1, c1, A2, n2, c2, A3, n3, c3⟩ ⟨kind, addr, err, aad, used, 5, shard, sought, (lf : Int), bit, word, full, 0, tries, item, stamp⟩) := Bk.new _ _ _
  replace H := H.alloc (.cells #[.int .i64 0, .int .u32 0, .slice none 0 0, .int .i64 0, .int .u32 0, .bool false, .slice none 0 0, .slice none 0 0, .int .i64 0, .int .i64 0, .int .i64 0, .int .i64 0, .int .i64 0, .int .u64 0, .bool false, .slice none 0 0, .int .i64 0, .int .i64 0, .int .i64 0, .int .i64 0] 44)
  replace O := O.alloc (.cells #[.int .i64 0, .int .u32 0, .slice none 0 0, .int .i64 0, .int .u32 0, .bool false, .slice none 0 0, .slice none 0 0, .int .i64 0, .int .i64 0, .int .i64 0, .int .i64 0, .int .i64 0, .int .u64 0, .bool false, .slice none 0 0, .int .i64 0, .int .i64 0, .int .i64 0, .int .i64 0] 44)
  replace K := Below.then_ K (below_alloc _ (.cells #[.int .i64 0, .int .u32 0, .slice none 0 0, .int .i64 0, .int .u32 0, .bool false, .slice none 0 0, .slice none 0 0, .int .i64 0, .int .i64 0, .int .i64 0, .int .i64 0, .int .i64 0, .int .u64 0, .bool false, .slice none 0 0, .int .i64 0, .int .i64 0, .int .i64 0, .int .i64 0] 44))
  have R : Bk (World.alloc (((w).alloc (.cells #[.int .u32 a, .int .i64 p, .slice A n c, .int .i64 sh, .int .i64 wo, .int .i64 qu, .int .i64 tr] 27)).alloc (.cells (opv ⟨A0, n0, c0, A1, n1, c1, A2, n2, c2, A3, n3, c3⟩ ⟨kind, addr, err, aad, used, 5, shard, sought, (lf : Int), bit, word, full, 0, tries, item, stamp⟩) 44)) (.cells #[.int .i64 0, .int .u32 0, .slice none 0 0, .int .i64 0, .int .u32 0, .bool false, .slice none 0 0, .slice none 0 0, .int .i64 0, .int .i64 0, .int .i64 0, .int .i64 0, .int .i64 0, .int .u64 0, .bool false, .slice none 0 0, .int .i64 0, .int .i64 0, .int .i64 0, .int .i64 0] 44)) (World.heap (((w).alloc (.cells #[.int .u32 a, .int .i64 p, .slice A n c, .int .i64 sh, .int .i64 wo, .int .i64 qu, .int .i64 tr] 27)).alloc (.cells (opv ⟨A0, n0, c0, A1, n1, c1, A2, n2, c2, A3, n3, c3⟩ ⟨kind, addr, err, aad, used, 5, shard, sought, (lf : Int), bit, word, full, 0, tries, item, stamp⟩) 44))).size 44 (opv hd0 sc0) := Bk.new _ _ _
  try simp only [World.size_alloc] at H O R
  generalize (((w).alloc (.cells #[.int .u32 a, .int .i64 p, .slice A n c, .int .i64 sh, .int .i64 wo, .int .i64 qu, .int .i64 tr] 27)).alloc (.cells (opv ⟨A0, n0, c0, A1, n1, c1, A2, n2, c2, A3, n3, c3⟩ ⟨kind, addr, err, aad, used, 5, shard, sought, (lf : Int), bit, word, full, 0, tries, item, stamp⟩) 44)).alloc (.cells #[.int .i64 0, .int .u32 0, .slice none 0 0, .int .i64 0, .int .u32 0, .bool false, .slice none 0 0, .slice none 0 0, .int .i64 0, .int .i64 0, .int .i64 0, .int .i64 0, .int .i64 0, .int .u64 0, .bool false, .slice none 0 0, .int .i64 0, .int .i64 0, .int .i64 0, .int .i64 0] 44) = w1 at H O R K ⊢
  obtain ⟨gR, hgR⟩ : ∃ g, g = w.heap.size + 1 + 1 := ⟨_, rfl⟩
  rw [← hgR] at R ⊢
  obtain ⟨gO, hgO⟩ : ∃ g, g = w.heap.size + 1 := ⟨_, rfl⟩
  rw [← hgO] at O ⊢
  obtain ⟨gH, hgH⟩ : ∃ g, g = w.heap.size := ⟨_, rfl⟩
  rw [← hgH] at H ⊢
  have H_b : w.heap.size ≤ gH := by omega
  have O_b : w.heap.size ≤ gO := by omega
  have R_b : w.heap.size ≤ gR := by omega
  have ne_H_O : gH ≠ gO := by omega
  have ne_H_R : gH ≠ gR := by omega
  have ne_O_R : gO ≠ gR := by omega
  clear hgH hgO hgR
  go_wp2_with (refine wpList_load_row rfl 44 (.tmp 5) rfl gO rfl _ _ (0, 0) _ O Try.underlying44 rfl op_sz ?_)
  refine ((T0 _ (L.below K)).out).mono ?_
  have hOlo := O.lt
  have hRlo := R.lt
  have KS1 := K.size
  rintro e w2 ⟨A0', c0', A1', c1', A2', c2', A3', c3', rfl, L', K'⟩
  replace H := H.below K'
  replace O := O.below K'
  replace R := R.below K'
  replace K := Below.then_ K K'
  clear K'
  generalize w1.heap.size = lo1 at L' hOlo hRlo KS1
  go_upto_region 2 with (refine wpList_store_row rfl 44 (.tmp 5) (.tmp 13) rfl gO _ rfl rfl _ _ O op_sz rfl (opv_one _ _) ?_)
  replace H := H.row_far ne_H_O (opv ⟨A0', n0, c0', A1', n1, c1', A2', n2, c2', A3', n3, c3'⟩ ⟨kind, addr, err, aad, used, 5, shard, sought, (lf : Int), bit, word, full, 0, tries, item, stamp⟩)
  replace R := R.row_far (Ne.symm ne_O_R) (opv ⟨A0', n0, c0', A1', n1, c1', A2', n2, c2', A3', n3, c3'⟩ ⟨kind, addr, err, aad, used, 5, shard, sought, (lf : Int), bit, word, full, 0, tries, item, stamp⟩)
  replace O := O.row (opv ⟨A0', n0, c0', A1', n1, c1', A2', n2, c2', A3', n3, c3'⟩ ⟨kind, addr, err, aad, used, 5, shard, sought, (lf : Int), bit, word, full, 0, tries, item, stamp⟩)
  replace L' := L'.set_row hOlo (opv ⟨A0', n0, c0', A1', n1, c1', A2', n2, c2', A3', n3, c3'⟩ ⟨kind, addr, err, aad, used, 5, shard, sought, (lf : Int), bit, word, full, 0, tries, item, stamp⟩)
  replace K := below_setRow K O_b (opv ⟨A0', n0, c0', A1', n1, c1', A2', n2, c2', A3', n3, c3'⟩ ⟨kind, addr, err, aad, used, 5, shard, sought, (lf : Int), bit, word, full, 0, tries, item, stamp⟩)
  generalize w2.setRow gO (opv ⟨A0', n0, c0', A1', n1, c1', A2', n2, c2', A3', n3, c3'⟩ ⟨kind, addr, err, aad, used, 5, shard, sought, (lf : Int), bit, word, full, 0, tries, item, stamp⟩) = w3 at H O R L' K ⊢
  have O_11 := O.at_ (v := .int .i64 (lf : Int)) 11 rfl
  have O_z := O.lt
  go_wp2_with (refine wpList_load_row rfl 27 (.tmp 3) rfl gH rfl _ _ (0, 0) _ H Try.underlying27 rfl cf_sz ?_)
  refine ((TS _).out).mono ?_
  rintro e w4 ⟨gN, gE, rfl, N, E, hgN, hgE, K'⟩
  clear O_11 O_z hgN hgE
  replace H := H.below K'
  replace O := O.below K'
  replace R := R.below K'
  replace L' := L'.below K'
  replace K := Below.then_ K K'
  clear K'
  have H_lt := H.lt
  have O_lt := O.lt
  have R_lt := R.lt
  have N_lt := N.lt
  have E_lt := E.lt
  have KS := K.size
  go_upto_region 3 with (refine wpList_store_row rfl 101 (.tmp 8) (.tmp 17) rfl _ _ rfl rfl _ _ (Bk.new _ _ _) ar_sz rfl (ar_one _ _) ?_)
  rw [World.setRow_alloc_new]
  replace H := H.alloc (.cells (clos gN gE) 101)
  replace O := O.alloc (.cells (clos gN gE) 101)
  replace R := R.alloc (.cells (clos gN gE) 101)
  replace N := N.alloc (.cells (clos gN gE) 101)
  replace E := E.alloc (.cells (clos gN gE) 101)
  replace L' := L'.below (below_alloc _ (.cells (clos gN gE) 101))
  replace K := Below.then_ K (below_alloc _ (.cells (clos gN gE) 101))
  have V : Bk (World.alloc (w4) (.cells (clos gN gE) 101)) (World.heap (w4)).size 101 (clos gN gE) := Bk.new _ _ _
  try simp only [World.size_alloc] at V
  generalize (w4).alloc (.cells (clos gN gE) 101) = w5 at H O R N E V L' K ⊢
  obtain ⟨gV, hgV⟩ : ∃ g, g = w4.heap.size := ⟨_, rfl⟩
  rw [← hgV] at V ⊢
  have V_b : w.heap.size ≤ gV := by have := KS; omega
  have ne_H_V : gH ≠ gV := by have := H_lt; omega
  have ne_O_V : gO ≠ gV := by have := O_lt; omega
  have ne_R_V : gR ≠ gV := by have := R_lt; omega
  have ne_N_V : gN ≠ gV := by have := N_lt; omega
  have ne_E_V : gE ≠ gV := by have := E_lt; omega
  clear hgV
  clear H_lt O_lt R_lt N_lt E_lt KS
  have O_16 := O.at_ (v := .int .i64 0) 16 rfl
  have O_z := O.lt
  have V_0 := V.at_ (v := .func (.func 83) #[] #[.pointer (some ⟨gN, 0, none⟩), .pointer (some ⟨gE, 0, none⟩)]) 0 rfl
  have V_z := V.lt
  go_upto_region 6 with ((with_reducible refine ((TC _ _ _ (N.at_ (v := .int .i64 M) 0 rfl) (E.at_ (v := .int .i64 lf) 0 rfl)).out).mono ?_); rintro e w' ⟨rfl, rfl⟩)
  clear O_16 O_z V_0 V_z N E V ne_H_V ne_O_V ne_R_V ne_N_V ne_E_V V_b TC TS T0
  have O_8 := O.at_ (v := .int .i64 5) 8 rfl
  have O_z := O.lt
  go_upto_region 10 with (fail)
  clear O_8 O_z
  have O_13 := O.at_ (v := .int .u64 ((word : Nat) : Int)) 13 rfl
  have O_14 := O.at_ (v := .bool (full)) 14 rfl
  have O_z := O.lt
  go_upto_region 11 with ((with_reducible refine ((TM _).out).mono ?_); rintro e w' ⟨rfl, rfl⟩)
  go_wp2_with fail
  refine ((TW _ (hU.below K)).out).mono ?_
  have hOs := O.lt
  have hRs := R.lt
  have KSw := K.size
  rintro e w6 ⟨gS, dS, rfl, U, hgS, K'⟩
  have hgw : w.heap.size ≤ gS := Nat.le_trans KSw hgS
  clear KSw
  clear O_13 O_14 O_z
  replace H := H.below K'
  replace O := O.below K'
  replace R := R.below K'
  replace L' := L'.below K'
  replace K := Below.then_ K K'
  clear K'
  have U' : UL gS w6 (some ⟨gS, 0, none⟩) m dS (ys.set cl y) := ⟨U, fun b o e => by cases e; exact Nat.le_refl _⟩
  clear U
  have hOs2 : gO < gS := by omega
  have hRs2 : gR < gS := by omega
  clear hOs hRs hgS
  have O_13 := O.at_ (v := .int .u64 ((word : Nat) : Int)) 13 rfl
  have O_z := O.lt
  have O_f13 := O.fz 13
  go_upto_region 13 with (fail)
  replace H := H.far (p := ⟨gO, 13, none⟩) ne_H_O (.int .u64 (y : Nat))
  replace R := R.far (p := ⟨gO, 13, none⟩) (Ne.symm ne_O_R) (.int .u64 (y : Nat))
  replace O := O.set_ 13 (.int .u64 (y : Nat))
  replace L' := L'.set_low (p := ⟨gO, 13, none⟩) hOlo (.int .u64 (y : Nat))
  replace U' := U'.set_low (p := ⟨gO, 13, none⟩) hOs2 (.int .u64 (y : Nat))
  replace K := K.setCell (p := ⟨gO, 13, none⟩) O_b (.int .u64 (y : Nat))
  replace O : Bk ((w6).setCell ⟨gO, 13, none⟩ (.int .u64 (y : Nat))) gO 44 (opv ⟨A0', n0, c0', A1', n1, c1', A2', n2, c2', A3', n3, c3'⟩ (worded ⟨kind, addr, err, aad, used, 5, shard, sought, (lf : Int), bit, word, full, 0, tries, item, stamp⟩ y)) := O
  clear O_13 O_z O_f13
  generalize (w6).setCell ⟨gO, 13, none⟩ (.int .u64 (y : Nat)) = w7 at H O R L' U' K ⊢
  go_wp2_with (first | (refine wpList_load_row rfl 27 (.tmp 3) rfl gH rfl _ _ (0, 0) _ H Try.underlying27 rfl cf_sz ?_) | (refine wpList_load_row rfl 44 (.tmp 5) rfl gO rfl _ _ (0, 0) _ O Try.underlying44 rfl op_sz ?_))
  refine ((TD _ _ A0' c0' A1' c1' A2' c2' A3' c3' (L'.asked hx.out)).out).mono ?_
  rintro e w8 ⟨rfl, K'⟩
  replace H := H.below K'
  replace O := O.below K'
  replace R := R.below K'
  replace L' := L'.below K'
  replace U' := U'.below K'
  replace K := Below.then_ K K'
  clear K'
  go_wp2_with (refine wpList_store_row rfl 44 (.tmp 7) (.tmp 70) rfl gR _ rfl rfl _ _ R op_sz rfl (opv_one _ _) ?_)
  replace H := H.row_far ne_H_R (opv ⟨A0', n0, c0', A1', n1, c1', A2', n2, c2', A3', n3, c3'⟩ (dn a n0 xs (worded ⟨kind, addr, err, aad, used, 5, shard, sought, (lf : Int), bit, word, full, 0, tries, item, stamp⟩ y)))
  replace O := O.row_far ne_O_R (opv ⟨A0', n0, c0', A1', n1, c1', A2', n2, c2', A3', n3, c3'⟩ (dn a n0 xs (worded ⟨kind, addr, err, aad, used, 5, shard, sought, (lf : Int), bit, word, full, 0, tries, item, stamp⟩ y)))
  replace R := R.row (opv ⟨A0', n0, c0', A1', n1, c1', A2', n2, c2', A3', n3, c3'⟩ (dn a n0 xs (worded ⟨kind, addr, err, aad, used, 5, shard, sought, (lf : Int), bit, word, full, 0, tries, item, stamp⟩ y)))
  replace L' := L'.set_row hRlo (opv ⟨A0', n0, c0', A1', n1, c1', A2', n2, c2', A3', n3, c3'⟩ (dn a n0 xs (worded ⟨kind, addr, err, aad, used, 5, shard, sought, (lf : Int), bit, word, full, 0, tries, item, stamp⟩ y)))
  replace U' := U'.set_row hRs2 (opv ⟨A0', n0, c0', A1', n1, c1', A2', n2, c2', A3', n3, c3'⟩ (dn a n0 xs (worded ⟨kind, addr, err, aad, used, 5, shard, sought, (lf : Int), bit, word, full, 0, tries, item, stamp⟩ y)))
  replace K := below_setRow K R_b (opv ⟨A0', n0, c0', A1', n1, c1', A2', n2, c2', A3', n3, c3'⟩ (dn a n0 xs (worded ⟨kind, addr, err, aad, used, 5, shard, sought, (lf : Int), bit, word, full, 0, tries, item, stamp⟩ y)))
  generalize w8.setRow gR (opv ⟨A0', n0, c0', A1', n1, c1', A2', n2, c2', A3', n3, c3'⟩ (dn a n0 xs (worded ⟨kind, addr, err, aad, used, 5, shard, sought, (lf : Int), bit, word, full, 0, tries, item, stamp⟩ y))) = w9 at H O R L' U' K ⊢
  refine bodyPost_ret (v := .tuple #[.slice (some ⟨gS, 0, none⟩) m dS, .agg (opv ⟨A0', n0, c0', A1', n1, c1', A2', n2, c2', A3', n3, c3'⟩ (dn a n0 xs (worded ⟨kind, addr, err, aad, used, 5, shard, sought, (lf : Int), bit, word, full, 0, tries, item, stamp⟩ y)))]) ?_ rfl ?_
  · exact results_tc (fn := Try.f72) Try.results72 _ _ gR _ _ (0, 0) _ rfl R Try.underlying44 rfl op_sz
  exact ⟨_, _, _, _, _, _, _, _, _, _, rfl, U'.1, L'.lower KS1, (fun k hk _ b o e => by cases e; omega), K⟩
set_option maxHeartbeats 2000000 in
theorem step5_0_n (ha : a < 4294967296) (hM : Much a p M) (hn : h.n0 ≤ 65536) (hI : IS .u32 lo w h.A0 h.n0 h.c0 xs) (hin : s.kind = 4 → InB a M h.n0 xs) (L : Lists lo2 w h l) (h1 : h.n1 ≤ 65536) (h2 : h.n2 ≤ 65536) (h3 : h.n3 ≤ 65536) (hU : US w B m d ys) (hm : m ≤ 65536) (hlf : s.leaf = (lf : Int)) (hlv : lf < lv M) (hcm : cl < m) (hb2 : b < 64) (hw : s.word < 18446744073709551616) (hcl : cl = lv M + lf / 64) (hb : b = lf % 64) (hat : s.at_ = 0) (hph : s.phase = 5) (heq : gt ys cl ≠ s.word) :
    Calls Try.prog 72 #[.agg #[.int .u32 a, .int .i64 p, .slice A n c, .int .i64 sh, .int .i64 wo, .int .i64 qu, .int .i64 tr], .slice B m d, .agg (opv h s)] w (RetStep h (dn a h.n0 xs (worded s (mkd s.word b s.full))) l m ys B w) := by
  have hl3 := lv_le hM.most
  have T0 := fun w (L : Lists lo2 w h l) => Lib.hid (own_any (s := s) L hn h1 h2 h3)
  have hx := Lib.hid (L.i0.uniq hI)
  have TS := fun w => Lib.hid (summaries_any (w := w) (sh := sh) (wo := wo) (qu := qu) (tr := tr) (A := A) (n := n) (c := c) (leaf := (lf : Int)) ha hM)
  have TC : ∀ (w : World) gN gE (_ : w.cell? ⟨gN, 0, none⟩ = some (.int .i64 (M : Nat))) (_ : w.cell? ⟨gE, 0, none⟩ = some (.int .i64 (lf : Nat))), Hid (Calls Try.prog 83 #[.pointer (some ⟨gN, 0, none⟩), .pointer (some ⟨gE, 0, none⟩)] w fun e w' => e = .returned (.tuple #[.int .i64 (cl : Nat), .int .i64 (b : Nat)]) ∧ w = w') := fun w gN gE hN hE => by rw [hcl, hb]; exact clo1_any hN hE hM.most (by omega)
  have TM := fun w => Lib.hid (marked_any s.word b s.full hw hb2 w)
  have hy := mkd_lt s.full hw hb2
  obtain ⟨y, hy1⟩ : ∃ y, y = mkd s.word b s.full := ⟨_, rfl⟩
  rw [← hy1] at TM hy
  have TD := fun w lo A0 c0 A1 c1 A2 c2 A3 c3 (hI : IS .u32 lo w A0 h.n0 c0 xs) => Lib.hid (done_any (w := w) (sh := sh) (wo := wo) (qu := qu) (tr := tr) (A := A) (n := n) (c := c) (h := ⟨A0, h.n0, c0, A1, h.n1, c1, A2, h.n2, c2, A3, h.n3, c3⟩) (s := worded s y) ha hM hn hI hin)
  rw [← hy1]
  clear hy1
  have TW := fun w (U : US w B m d ys) => Lib.hid (swap_same (v := y) U hcm heq)
  clear heq
  clear hcl hb
  rcases s with ⟨kind, addr, err, aad, used, phase, shard, sought, leaf, bit, word, full, at_, tries, item, stamp⟩
  rcases h with ⟨A0, n0, c0, A1, n1, c1, A2, n2, c2, A3, n3, c3⟩
  dsimp only at *
  subst hlf hat hph
  go_enter Try.func72, Try.ntmps72
  go_upto_region 1 with (fail)
  have K := below_alloc w (.cells #[.int .u32 a, .int .i64 p, .slice A n c, .int .i64 sh, .int .i64 wo, .int .i64 qu, .int .i64 tr] 27)
  have H : Bk (World.alloc (w) (.cells #[.int .u32 a, .int .i64 p, .slice A n c, .int .i64 sh, .int .i64 wo, .int .i64 qu, .int .i64 tr] 27)) (World.heap (w)).size 27 (#[.int .u32 a, .int .i64 p, .slice A n c, .int .i64 sh, .int .i64 wo, .int .i64 qu, .int .i64 tr]) := Bk.new _ _ _
  replace H := H.alloc (.cells (opv ⟨A0, n0, c0, A1, n1, c1, A2, n2, c2, A3, n3, c3⟩ ⟨kind, addr, err, aad, used, 5, shard, sought, (lf : Int), bit, word, full, 0, tries, item, stamp⟩) 44)
  replace K := Below.then_ K (below_alloc _ (.cells (opv ⟨A0, n0, c0, A1, n1, c1, A2, n2, c2, A3, n3, c3⟩ ⟨kind, addr, err, aad, used, 5, shard, sought, (lf : Int), bit, word, full, 0, tries, item, stamp⟩) 44))
  have O : Bk (World.alloc ((w).alloc (.cells #[.int .u32 a, .int .i64 p, .slice A n c, .int .i64 sh, .int .i64 wo, .int .i64 qu, .int .i64 tr] 27)) (.cells (opv ⟨A0, n0, c0, A1, n1, c1, A2, n2, c2, A3, n3, c3⟩ ⟨kind, addr, err, aad, used, 5, shard, sought, (lf : Int), bit, word, full, 0, tries, item, stamp⟩) 44)) (World.heap ((w).alloc (.cells #[.int .u32 a, .int .i64 p, .slice A n c, .int .i64 sh, .int .i64 wo, .int .i64 qu, .int .i64 tr] 27))).size 44 (opv ⟨A0, n0, c0, A1, n1, c1, A2, n2, c2, A3, n3, c3⟩ ⟨kind, addr, err, aad, used, 5, shard, sought, (lf : Int), bit, word, full, 0, tries, item, stamp⟩) := Bk.new _ _ _
  replace H := H.alloc (.cells #[.int .i64 0, .int .u32 0, .slice none 0 0, .int .i64 0, .int .u32 0, .bool false, .slice none 0 0, .slice none 0 0, .int .i64 0, .int .i64 0, .int .i64 0, .int .i64 0, .int .i64 0, .int .u64 0, .bool false, .slice none 0 0, .int .i64 0, .int .i64 0, .int .i64 0, .int .i64 0] 44)
  replace O := O.alloc (.cells #[.int .i64 0, .int .u32 0, .slice none 0 0, .int .i64 0, .int .u32 0, .bool false, .slice none 0 0, .slice none 0 0, .int .i64 0, .int .i64 0, .int .i64 0, .int .i64 0, .int .i64 0, .int .u64 0, .bool false, .slice none 0 0, .int .i64 0, .int .i64 0, .int .i64 0, .int .i64 0] 44)
  replace K := Below.then_ K (below_alloc _ (.cells #[.int .i64 0, .int .u32 0, .slice none 0 0, .int .i64 0, .int .u32 0, .bool false, .slice none 0 0, .slice none 0 0, .int .i64 0, .int .i64 0, .int .i64 0, .int .i64 0, .int .i64 0, .int .u64 0, .bool false, .slice none 0 0, .int .i64 0, .int .i64 0, .int .i64 0, .int .i64 0] 44))
  have R : Bk (World.alloc (((w).alloc (.cells #[.int .u32 a, .int .i64 p, .slice A n c, .int .i64 sh, .int .i64 wo, .int .i64 qu, .int .i64 tr] 27)).alloc (.cells (opv ⟨A0, n0, c0, A1, n1, c1, A2, n2, c2, A3, n3, c3⟩ ⟨kind, addr, err, aad, used, 5, shard, sought, (lf : Int), bit, word, full, 0, tries, item, stamp⟩) 44)) (.cells #[.int .i64 0, .int .u32 0, .slice none 0 0, .int .i64 0, .int .u32 0, .bool false, .slice none 0 0, .slice none 0 0, .int .i64 0, .int .i64 0, .int .i64 0, .int .i64 0, .int .i64 0, .int .u64 0, .bool false, .slice none 0 0, .int .i64 0, .int .i64 0, .int .i64 0, .int .i64 0] 44)) (World.heap (((w).alloc (.cells #[.int .u32 a, .int .i64 p, .slice A n c, .int .i64 sh, .int .i64 wo, .int .i64 qu, .int .i64 tr] 27)).alloc (.cells (opv ⟨A0, n0, c0, A1, n1, c1, A2, n2, c2, A3, n3, c3⟩ ⟨kind, addr, err, aad, used, 5, shard, sought, (lf : Int), bit, word, full, 0, tries, item, stamp⟩) 44))).size 44 (opv hd0 sc0) := Bk.new _ _ _
  try simp only [World.size_alloc] at H O R
  generalize (((w).alloc (.cells #[.int .u32 a, .int .i64 p, .slice A n c, .int .i64 sh, .int .i64 wo, .int .i64 qu, .int .i64 tr] 27)).alloc (.cells (opv ⟨A0, n0, c0, A1, n1, c1, A2, n2, c2, A3, n3, c3⟩ ⟨kind, addr, err, aad, used, 5, shard, sought, (lf : Int), bit, word, full, 0, tries, item, stamp⟩) 44)).alloc (.cells #[.int .i64 0, .int .u32 0, .slice none 0 0, .int .i64 0, .int .u32 0, .bool false, .slice none 0 0, .slice none 0 0, .int .i64 0, .int .i64 0, .int .i64 0, .int .i64 0, .int .i64 0, .int .u64 0, .bool false, .slice none 0 0, .int .i64 0, .int .i64 0, .int .i64 0, .int .i64 0] 44) = w1 at H O R K ⊢
  obtain ⟨gR, hgR⟩ : ∃ g, g = w.heap.size + 1 + 1 := ⟨_, rfl⟩
  rw [← hgR] at R ⊢
  obtain ⟨gO, hgO⟩ : ∃ g, g = w.heap.size + 1 := ⟨_, rfl⟩
  rw [← hgO] at O ⊢
  obtain ⟨gH, hgH⟩ : ∃ g, g = w.heap.size := ⟨_, rfl⟩
  rw [← hgH] at H ⊢
  have H_b : w.heap.size ≤ gH := by omega
  have O_b : w.heap.size ≤ gO := by omega
  have R_b : w.heap.size ≤ gR := by omega
  have ne_H_O : gH ≠ gO := by omega
  have ne_H_R : gH ≠ gR := by omega
  have ne_O_R : gO ≠ gR := by omega
  clear hgH hgO hgR
  go_wp2_with (refine wpList_load_row rfl 44 (.tmp 5) rfl gO rfl _ _ (0, 0) _ O Try.underlying44 rfl op_sz ?_)
  refine ((T0 _ (L.below K)).out).mono ?_
  have hOlo := O.lt
  have hRlo := R.lt
  have KS1 := K.size
  rintro e w2 ⟨A0', c0', A1', c1', A2', c2', A3', c3', rfl, L', K'⟩
  replace H := H.below K'
  replace O := O.below K'
  replace R := R.below K'
  replace K := Below.then_ K K'
  clear K'
  generalize w1.heap.size = lo1 at L' hOlo hRlo KS1
  go_upto_region 2 with (refine wpList_store_row rfl 44 (.tmp 5) (.tmp 13) rfl gO _ rfl rfl _ _ O op_sz rfl (opv_one _ _) ?_)
  replace H := H.row_far ne_H_O (opv ⟨A0', n0, c0', A1', n1, c1', A2', n2, c2', A3', n3, c3'⟩ ⟨kind, addr, err, aad, used, 5, shard, sought, (lf : Int), bit, word, full, 0, tries, item, stamp⟩)
  replace R := R.row_far (Ne.symm ne_O_R) (opv ⟨A0', n0, c0', A1', n1, c1', A2', n2, c2', A3', n3, c3'⟩ ⟨kind, addr, err, aad, used, 5, shard, sought, (lf : Int), bit, word, full, 0, tries, item, stamp⟩)
  replace O := O.row (opv ⟨A0', n0, c0', A1', n1, c1', A2', n2, c2', A3', n3, c3'⟩ ⟨kind, addr, err, aad, used, 5, shard, sought, (lf : Int), bit, word, full, 0, tries, item, stamp⟩)
  replace L' := L'.set_row hOlo (opv ⟨A0', n0, c0', A1', n1, c1', A2', n2, c2', A3', n3, c3'⟩ ⟨kind, addr, err, aad, used, 5, shard, sought, (lf : Int), bit, word, full, 0, tries, item, stamp⟩)
  replace K := below_setRow K O_b (opv ⟨A0', n0, c0', A1', n1, c1', A2', n2, c2', A3', n3, c3'⟩ ⟨kind, addr, err, aad, used, 5, shard, sought, (lf : Int), bit, word, full, 0, tries, item, stamp⟩)
  generalize w2.setRow gO (opv ⟨A0', n0, c0', A1', n1, c1', A2', n2, c2', A3', n3, c3'⟩ ⟨kind, addr, err, aad, used, 5, shard, sought, (lf : Int), bit, word, full, 0, tries, item, stamp⟩) = w3 at H O R L' K ⊢
  have O_11 := O.at_ (v := .int .i64 (lf : Int)) 11 rfl
  have O_z := O.lt
  go_wp2_with (refine wpList_load_row rfl 27 (.tmp 3) rfl gH rfl _ _ (0, 0) _ H Try.underlying27 rfl cf_sz ?_)
  refine ((TS _).out).mono ?_
  rintro e w4 ⟨gN, gE, rfl, N, E, hgN, hgE, K'⟩
  clear O_11 O_z hgN hgE
  replace H := H.below K'
  replace O := O.below K'
  replace R := R.below K'
  replace L' := L'.below K'
  replace K := Below.then_ K K'
  clear K'
  have H_lt := H.lt
  have O_lt := O.lt
  have R_lt := R.lt
  have N_lt := N.lt
  have E_lt := E.lt
  have KS := K.size
  go_upto_region 3 with (refine wpList_store_row rfl 101 (.tmp 8) (.tmp 17) rfl _ _ rfl rfl _ _ (Bk.new _ _ _) ar_sz rfl (ar_one _ _) ?_)
  rw [World.setRow_alloc_new]
  replace H := H.alloc (.cells (clos gN gE) 101)
  replace O := O.alloc (.cells (clos gN gE) 101)
  replace R := R.alloc (.cells (clos gN gE) 101)
  replace N := N.alloc (.cells (clos gN gE) 101)
  replace E := E.alloc (.cells (clos gN gE) 101)
  replace L' := L'.below (below_alloc _ (.cells (clos gN gE) 101))
  replace K := Below.then_ K (below_alloc _ (.cells (clos gN gE) 101))
  have V : Bk (World.alloc (w4) (.cells (clos gN gE) 101)) (World.heap (w4)).size 101 (clos gN gE) := Bk.new _ _ _
  try simp only [World.size_alloc] at V
  generalize (w4).alloc (.cells (clos gN gE) 101) = w5 at H O R N E V L' K ⊢
  obtain ⟨gV, hgV⟩ : ∃ g, g = w4.heap.size := ⟨_, rfl⟩
  rw [← hgV] at V ⊢
  have V_b : w.heap.size ≤ gV := by have := KS; omega
  have ne_H_V : gH ≠ gV := by have := H_lt; omega
  have ne_O_V : gO ≠ gV := by have := O_lt; omega
  have ne_R_V : gR ≠ gV := by have := R_lt; omega
  have ne_N_V : gN ≠ gV := by have := N_lt; omega
  have ne_E_V : gE ≠ gV := by have := E_lt; omega
  clear hgV
  clear H_lt O_lt R_lt N_lt E_lt KS
  have O_16 := O.at_ (v := .int .i64 0) 16 rfl
  have O_z := O.lt
  have V_0 := V.at_ (v := .func (.func 83) #[] #[.pointer (some ⟨gN, 0, none⟩), .pointer (some ⟨gE, 0, none⟩)]) 0 rfl
  have V_z := V.lt
  go_upto_region 6 with ((with_reducible refine ((TC _ _ _ (N.at_ (v := .int .i64 M) 0 rfl) (E.at_ (v := .int .i64 lf) 0 rfl)).out).mono ?_); rintro e w' ⟨rfl, rfl⟩)
  clear O_16 O_z V_0 V_z N E V ne_H_V ne_O_V ne_R_V ne_N_V ne_E_V V_b TC TS T0
  have O_8 := O.at_ (v := .int .i64 5) 8 rfl
  have O_z := O.lt
  go_upto_region 10 with (fail)
  clear O_8 O_z
  have O_13 := O.at_ (v := .int .u64 ((word : Nat) : Int)) 13 rfl
  have O_14 := O.at_ (v := .bool (full)) 14 rfl
  have O_z := O.lt
  go_upto_region 11 with ((with_reducible refine ((TM _).out).mono ?_); rintro e w' ⟨rfl, rfl⟩)
  go_wp2_with fail
  refine ((TW _ (hU.below K)).out).mono ?_
  have hOs := O.lt
  have hRs := R.lt
  rintro e w6 ⟨rfl, K'⟩
  clear O_13 O_14 O_z
  replace H := H.below K'
  replace O := O.below K'
  replace R := R.below K'
  replace L' := L'.below K'
  replace K := Below.then_ K K'
  clear K'
  clear hOs hRs
  have O_13 := O.at_ (v := .int .u64 ((word : Nat) : Int)) 13 rfl
  have O_z := O.lt
  have O_f13 := O.fz 13
  go_upto_region 13 with (fail)
  replace H := H.far (p := ⟨gO, 13, none⟩) ne_H_O (.int .u64 (y : Nat))
  replace R := R.far (p := ⟨gO, 13, none⟩) (Ne.symm ne_O_R) (.int .u64 (y : Nat))
  replace O := O.set_ 13 (.int .u64 (y : Nat))
  replace L' := L'.set_low (p := ⟨gO, 13, none⟩) hOlo (.int .u64 (y : Nat))
  replace K := K.setCell (p := ⟨gO, 13, none⟩) O_b (.int .u64 (y : Nat))
  replace O : Bk ((w6).setCell ⟨gO, 13, none⟩ (.int .u64 (y : Nat))) gO 44 (opv ⟨A0', n0, c0', A1', n1, c1', A2', n2, c2', A3', n3, c3'⟩ (worded ⟨kind, addr, err, aad, used, 5, shard, sought, (lf : Int), bit, word, full, 0, tries, item, stamp⟩ y)) := O
  clear O_13 O_z O_f13
  generalize (w6).setCell ⟨gO, 13, none⟩ (.int .u64 (y : Nat)) = w7 at H O R L' K ⊢
  go_wp2_with (first | (refine wpList_load_row rfl 27 (.tmp 3) rfl gH rfl _ _ (0, 0) _ H Try.underlying27 rfl cf_sz ?_) | (refine wpList_load_row rfl 44 (.tmp 5) rfl gO rfl _ _ (0, 0) _ O Try.underlying44 rfl op_sz ?_))
  refine ((TD _ _ A0' c0' A1' c1' A2' c2' A3' c3' (L'.asked hx.out)).out).mono ?_
  rintro e w8 ⟨rfl, K'⟩
  replace H := H.below K'
  replace O := O.below K'
  replace R := R.below K'
  replace L' := L'.below K'
  replace K := Below.then_ K K'
  clear K'
  go_wp2_with (refine wpList_store_row rfl 44 (.tmp 7) (.tmp 70) rfl gR _ rfl rfl _ _ R op_sz rfl (opv_one _ _) ?_)
  replace H := H.row_far ne_H_R (opv ⟨A0', n0, c0', A1', n1, c1', A2', n2, c2', A3', n3, c3'⟩ (dn a n0 xs (worded ⟨kind, addr, err, aad, used, 5, shard, sought, (lf : Int), bit, word, full, 0, tries, item, stamp⟩ y)))
  replace O := O.row_far ne_O_R (opv ⟨A0', n0, c0', A1', n1, c1', A2', n2, c2', A3', n3, c3'⟩ (dn a n0 xs (worded ⟨kind, addr, err, aad, used, 5, shard, sought, (lf : Int), bit, word, full, 0, tries, item, stamp⟩ y)))
  replace R := R.row (opv ⟨A0', n0, c0', A1', n1, c1', A2', n2, c2', A3', n3, c3'⟩ (dn a n0 xs (worded ⟨kind, addr, err, aad, used, 5, shard, sought, (lf : Int), bit, word, full, 0, tries, item, stamp⟩ y)))
  replace L' := L'.set_row hRlo (opv ⟨A0', n0, c0', A1', n1, c1', A2', n2, c2', A3', n3, c3'⟩ (dn a n0 xs (worded ⟨kind, addr, err, aad, used, 5, shard, sought, (lf : Int), bit, word, full, 0, tries, item, stamp⟩ y)))
  replace K := below_setRow K R_b (opv ⟨A0', n0, c0', A1', n1, c1', A2', n2, c2', A3', n3, c3'⟩ (dn a n0 xs (worded ⟨kind, addr, err, aad, used, 5, shard, sought, (lf : Int), bit, word, full, 0, tries, item, stamp⟩ y)))
  generalize w8.setRow gR (opv ⟨A0', n0, c0', A1', n1, c1', A2', n2, c2', A3', n3, c3'⟩ (dn a n0 xs (worded ⟨kind, addr, err, aad, used, 5, shard, sought, (lf : Int), bit, word, full, 0, tries, item, stamp⟩ y))) = w9 at H O R L' K ⊢
  refine bodyPost_ret (v := .tuple #[.slice B m d, .agg (opv ⟨A0', n0, c0', A1', n1, c1', A2', n2, c2', A3', n3, c3'⟩ (dn a n0 xs (worded ⟨kind, addr, err, aad, used, 5, shard, sought, (lf : Int), bit, word, full, 0, tries, item, stamp⟩ y)))]) ?_ rfl ?_
  · exact results_tc (fn := Try.f72) Try.results72 _ _ gR _ _ (0, 0) _ rfl R Try.underlying44 rfl op_sz
  exact ⟨_, _, _, _, _, _, _, _, _, _, rfl, hU.below K, L'.lower KS1, (fun _ _ h => h), K⟩
set_option maxHeartbeats 2000000 in
theorem step4_1 (ha : a < 4294967296) (hM : Much a p M) (hn : h.n0 ≤ 65536) (hI : IS .u32 lo w h.A0 h.n0 h.c0 xs) (hin : s.kind = 4 → InB a M h.n0 xs) (L : Lists lo2 w h l) (h1 : h.n1 ≤ 65536) (h2 : h.n2 ≤ 65536) (h3 : h.n3 ≤ 65536) (hU : US w B m d ys) (hm : m ≤ 65536) (hlf : s.leaf = (lf : Int)) (hlv : lf < lv M) (hcm : cl < m) (hb2 : b < 64) (hw : s.word < 18446744073709551616) (hcl : cl = lv M + tv M) (hb : b = lf / 64) (hat : s.at_ = 1) (hph : s.phase = 4) :
    Calls Try.prog 72 #[.agg #[.int .u32 a, .int .i64 p, .slice A n c, .int .i64 sh, .int .i64 wo, .int .i64 qu, .int .i64 tr], .slice B m d, .agg (opv h s)] w (RetStep h (lk a h.n0 xs s (gt ys cl) b) l m ys B w) := by
  have hl3 := lv_le hM.most
  have T0 := fun w (L : Lists lo2 w h l) => Lib.hid (own_any (s := s) L hn h1 h2 h3)
  have hx := Lib.hid (L.i0.uniq hI)
  have TS := fun w => Lib.hid (summaries_any (w := w) (sh := sh) (wo := wo) (qu := qu) (tr := tr) (A := A) (n := n) (c := c) (leaf := (lf : Int)) ha hM)
  have TC : ∀ (w : World) gN gE (_ : w.cell? ⟨gN, 0, none⟩ = some (.int .i64 (M : Nat))) (_ : w.cell? ⟨gE, 0, none⟩ = some (.int .i64 (lf : Nat))), Hid (Calls Try.prog 84 #[.pointer (some ⟨gN, 0, none⟩), .pointer (some ⟨gE, 0, none⟩)] w fun e w' => e = .returned (.tuple #[.int .i64 (cl : Nat), .int .i64 (b : Nat)]) ∧ w = w') := fun w gN gE hN hE => by rw [hcl, hb]; exact clo2_any hN hE hM.most (by omega)
  have TK := fun w lo A0 c0 A1 c1 A2 c2 A3 c3 (hI : IS .u32 lo w A0 h.n0 c0 xs) => Lib.hid (look_any (w := w) (sh := sh) (wo := wo) (qu := qu) (tr := tr) (A := A) (n := n) (c := c) (h := ⟨A0, h.n0, c0, A1, h.n1, c1, A2, h.n2, c2, A3, h.n3, c3⟩) (s := s) (x := gt ys cl) (b := b) ha hM hn hI hin (gt_lt hU.fit cl) hb2)
  have TL := fun w (U : US w B m d ys) => Lib.hid (load_nat U cl hcm)
  clear hcl hb
  rcases s with ⟨kind, addr, err, aad, used, phase, shard, sought, leaf, bit, word, full, at_, tries, item, stamp⟩
  rcases h with ⟨A0, n0, c0, A1, n1, c1, A2, n2, c2, A3, n3, c3⟩
  dsimp only at *
  subst hlf hat hph
  go_enter Try.func72, Try.ntmps72
  go_upto_region 1 with (fail)
  have K := below_alloc w (.cells #[.int .u32 a, .int .i64 p, .slice A n c, .int .i64 sh, .int .i64 wo, .int .i64 qu, .int .i64 tr] 27)
  have H : Bk (World.alloc (w) (.cells #[.int .u32 a, .int .i64 p, .slice A n c, .int .i64 sh, .int .i64 wo, .int .i64 qu, .int .i64 tr] 27)) (World.heap (w)).size 27 (#[.int .u32 a, .int .i64 p, .slice A n c, .int .i64 sh, .int .i64 wo, .int .i64 qu, .int .i64 tr]) := Bk.new _ _ _
  replace H := H.alloc (.cells (opv ⟨A0, n0, c0, A1, n1, c1, A2, n2, c2, A3, n3, c3⟩ ⟨kind, addr, err, aad, used, 4, shard, sought, (lf : Int), bit, word, full, 1, tries, item, stamp⟩) 44)
  replace K := Below.then_ K (below_alloc _ (.cells (opv ⟨A0, n0, c0, A1, n1, c1, A2, n2, c2, A3, n3, c3⟩ ⟨kind, addr, err, aad, used, 4, shard, sought, (lf : Int), bit, word, full, 1, tries, item, stamp⟩) 44))
  have O : Bk (World.alloc ((w).alloc (.cells #[.int .u32 a, .int .i64 p, .slice A n c, .int .i64 sh, .int .i64 wo, .int .i64 qu, .int .i64 tr] 27)) (.cells (opv ⟨A0, n0, c0, A1, n1, c1, A2, n2, c2, A3, n3, c3⟩ ⟨kind, addr, err, aad, used, 4, shard, sought, (lf : Int), bit, word, full, 1, tries, item, stamp⟩) 44)) (World.heap ((w).alloc (.cells #[.int .u32 a, .int .i64 p, .slice A n c, .int .i64 sh, .int .i64 wo, .int .i64 qu, .int .i64 tr] 27))).size 44 (opv ⟨A0, n0, c0, A1, n1, c1, A2, n2, c2, A3, n3, c3⟩ ⟨kind, addr, err, aad, used, 4, shard, sought, (lf : Int), bit, word, full, 1, tries, item, stamp⟩) := Bk.new _ _ _
  replace H := H.alloc (.cells #[.int .i64 0, .int .u32 0, .slice none 0 0, .int .i64 0, .int .u32 0, .bool false, .slice none 0 0, .slice none 0 0, .int .i64 0, .int .i64 0, .int .i64 0, .int .i64 0, .int .i64 0, .int .u64 0, .bool false, .slice none 0 0, .int .i64 0, .int .i64 0, .int .i64 0, .int .i64 0] 44)
  replace O := O.alloc (.cells #[.int .i64 0, .int .u32 0, .slice none 0 0, .int .i64 0, .int .u32 0, .bool false, .slice none 0 0, .slice none 0 0, .int .i64 0, .int .i64 0, .int .i64 0, .int .i64 0, .int .i64 0, .int .u64 0, .bool false, .slice none 0 0, .int .i64 0, .int .i64 0, .int .i64 0, .int .i64 0] 44)
  replace K := Below.then_ K (below_alloc _ (.cells #[.int .i64 0, .int .u32 0, .slice none 0 0, .int .i64 0, .int .u32 0, .bool false, .slice none 0 0, .slice none 0 0, .int .i64 0, .int .i64 0, .int .i64 0, .int .i64 0, .int .i64 0, .int .u64 0, .bool false, .slice none 0 0, .int .i64 0, .int .i64 0, .int .i64 0, .int .i64 0] 44))
  have R : Bk (World.alloc (((w).alloc (.cells #[.int .u32 a, .int .i64 p, .slice A n c, .int .i64 sh, .int .i64 wo, .int .i64 qu, .int .i64 tr] 27)).alloc (.cells (opv ⟨A0, n0, c0, A1, n1, c1, A2, n2, c2, A3, n3, c3⟩ ⟨kind, addr, err, aad, used, 4, shard, sought, (lf : Int), bit, word, full, 1, tries, item, stamp⟩) 44)) (.cells #[.int .i64 0, .int .u32 0, .slice none 0 0, .int .i64 0, .int .u32 0, .bool false, .slice none 0 0, .slice none 0 0, .int .i64 0, .int .i64 0, .int .i64 0, .int .i64 0, .int .i64 0, .int .u64 0, .bool false, .slice none 0 0, .int .i64 0, .int .i64 0, .int .i64 0, .int .i64 0] 44)) (World.heap (((w).alloc (.cells #[.int .u32 a, .int .i64 p, .slice A n c, .int .i64 sh, .int .i64 wo, .int .i64 qu, .int .i64 tr] 27)).alloc (.cells (opv ⟨A0, n0, c0, A1, n1, c1, A2, n2, c2, A3, n3, c3⟩ ⟨kind, addr, err, aad, used, 4, shard, sought, (lf : Int), bit, word, full, 1, tries, item, stamp⟩) 44))).size 44 (opv hd0 sc0) := Bk.new _ _ _
  try simp only [World.size_alloc] at H O R
  generalize (((w).alloc (.cells #[.int .u32 a, .int .i64 p, .slice A n c, .int .i64 sh, .int .i64 wo, .int .i64 qu, .int .i64 tr] 27)).alloc (.cells (opv ⟨A0, n0, c0, A1, n1, c1, A2, n2, c2, A3, n3, c3⟩ ⟨kind, addr, err, aad, used, 4, shard, sought, (lf : Int), bit, word, full, 1, tries, item, stamp⟩) 44)).alloc (.cells #[.int .i64 0, .int .u32 0, .slice none 0 0, .int .i64 0, .int .u32 0, .bool false, .slice none 0 0, .slice none 0 0, .int .i64 0, .int .i64 0, .int .i64 0, .int .i64 0, .int .i64 0, .int .u64 0, .bool false, .slice none 0 0, .int .i64 0, .int .i64 0, .int .i64 0, .int .i64 0] 44) = w1 at H O R K ⊢
  obtain ⟨gR, hgR⟩ : ∃ g, g = w.heap.size + 1 + 1 := ⟨_, rfl⟩
  rw [← hgR] at R ⊢
  obtain ⟨gO, hgO⟩ : ∃ g, g = w.heap.size + 1 := ⟨_, rfl⟩
  rw [← hgO] at O ⊢
  obtain ⟨gH, hgH⟩ : ∃ g, g = w.heap.size := ⟨_, rfl⟩
  rw [← hgH] at H ⊢
  have H_b : w.heap.size ≤ gH := by omega
  have O_b : w.heap.size ≤ gO := by omega
  have R_b : w.heap.size ≤ gR := by omega
  have ne_H_O : gH ≠ gO := by omega
  have ne_H_R : gH ≠ gR := by omega
  have ne_O_R : gO ≠ gR := by omega
  clear hgH hgO hgR
  go_wp2_with (refine wpList_load_row rfl 44 (.tmp 5) rfl gO rfl _ _ (0, 0) _ O Try.underlying44 rfl op_sz ?_)
  refine ((T0 _ (L.below K)).out).mono ?_
  have hOlo := O.lt
  have hRlo := R.lt
  have KS1 := K.size
  rintro e w2 ⟨A0', c0', A1', c1', A2', c2', A3', c3', rfl, L', K'⟩
  replace H := H.below K'
  replace O := O.below K'
  replace R := R.below K'
  replace K := Below.then_ K K'
  clear K'
  generalize w1.heap.size = lo1 at L' hOlo hRlo KS1
  go_upto_region 2 with (refine wpList_store_row rfl 44 (.tmp 5) (.tmp 13) rfl gO _ rfl rfl _ _ O op_sz rfl (opv_one _ _) ?_)
  replace H := H.row_far ne_H_O (opv ⟨A0', n0, c0', A1', n1, c1', A2', n2, c2', A3', n3, c3'⟩ ⟨kind, addr, err, aad, used, 4, shard, sought, (lf : Int), bit, word, full, 1, tries, item, stamp⟩)
  replace R := R.row_far (Ne.symm ne_O_R) (opv ⟨A0', n0, c0', A1', n1, c1', A2', n2, c2', A3', n3, c3'⟩ ⟨kind, addr, err, aad, used, 4, shard, sought, (lf : Int), bit, word, full, 1, tries, item, stamp⟩)
  replace O := O.row (opv ⟨A0', n0, c0', A1', n1, c1', A2', n2, c2', A3', n3, c3'⟩ ⟨kind, addr, err, aad, used, 4, shard, sought, (lf : Int), bit, word, full, 1, tries, item, stamp⟩)
  replace L' := L'.set_row hOlo (opv ⟨A0', n0, c0', A1', n1, c1', A2', n2, c2', A3', n3, c3'⟩ ⟨kind, addr, err, aad, used, 4, shard, sought, (lf : Int), bit, word, full, 1, tries, item, stamp⟩)
  replace K := below_setRow K O_b (opv ⟨A0', n0, c0', A1', n1, c1', A2', n2, c2', A3', n3, c3'⟩ ⟨kind, addr, err, aad, used, 4, shard, sought, (lf : Int), bit, word, full, 1, tries, item, stamp⟩)
  generalize w2.setRow gO (opv ⟨A0', n0, c0', A1', n1, c1', A2', n2, c2', A3', n3, c3'⟩ ⟨kind, addr, err, aad, used, 4, shard, sought, (lf : Int), bit, word, full, 1, tries, item, stamp⟩) = w3 at H O R L' K ⊢
  have O_11 := O.at_ (v := .int .i64 (lf : Int)) 11 rfl
  have O_z := O.lt
  go_wp2_with (refine wpList_load_row rfl 27 (.tmp 3) rfl gH rfl _ _ (0, 0) _ H Try.underlying27 rfl cf_sz ?_)
  refine ((TS _).out).mono ?_
  rintro e w4 ⟨gN, gE, rfl, N, E, hgN, hgE, K'⟩
  clear O_11 O_z hgN hgE
  replace H := H.below K'
  replace O := O.below K'
  replace R := R.below K'
  replace L' := L'.below K'
  replace K := Below.then_ K K'
  clear K'
  have H_lt := H.lt
  have O_lt := O.lt
  have R_lt := R.lt
  have N_lt := N.lt
  have E_lt := E.lt
  have KS := K.size
  go_upto_region 3 with (refine wpList_store_row rfl 101 (.tmp 8) (.tmp 17) rfl _ _ rfl rfl _ _ (Bk.new _ _ _) ar_sz rfl (ar_one _ _) ?_)
  rw [World.setRow_alloc_new]
  replace H := H.alloc (.cells (clos gN gE) 101)
  replace O := O.alloc (.cells (clos gN gE) 101)
  replace R := R.alloc (.cells (clos gN gE) 101)
  replace N := N.alloc (.cells (clos gN gE) 101)
  replace E := E.alloc (.cells (clos gN gE) 101)
  replace L' := L'.below (below_alloc _ (.cells (clos gN gE) 101))
  replace K := Below.then_ K (below_alloc _ (.cells (clos gN gE) 101))
  have V : Bk (World.alloc (w4) (.cells (clos gN gE) 101)) (World.heap (w4)).size 101 (clos gN gE) := Bk.new _ _ _
  try simp only [World.size_alloc] at V
  generalize (w4).alloc (.cells (clos gN gE) 101) = w5 at H O R N E V L' K ⊢
  obtain ⟨gV, hgV⟩ : ∃ g, g = w4.heap.size := ⟨_, rfl⟩
  rw [← hgV] at V ⊢
  have V_b : w.heap.size ≤ gV := by have := KS; omega
  have ne_H_V : gH ≠ gV := by have := H_lt; omega
  have ne_O_V : gO ≠ gV := by have := O_lt; omega
  have ne_R_V : gR ≠ gV := by have := R_lt; omega
  have ne_N_V : gN ≠ gV := by have := N_lt; omega
  have ne_E_V : gE ≠ gV := by have := E_lt; omega
  clear hgV
  clear H_lt O_lt R_lt N_lt E_lt KS
  have O_16 := O.at_ (v := .int .i64 1) 16 rfl
  have O_z := O.lt
  have V_1 := V.at_ (v := .func (.func 84) #[] #[.pointer (some ⟨gN, 0, none⟩), .pointer (some ⟨gE, 0, none⟩)]) 1 rfl
  have V_z := V.lt
  go_upto_region 6 with ((with_reducible refine ((TC _ _ _ (N.at_ (v := .int .i64 M) 0 rfl) (E.at_ (v := .int .i64 lf) 0 rfl)).out).mono ?_); rintro e w' ⟨rfl, rfl⟩)
  clear O_16 O_z V_1 V_z N E V ne_H_V ne_O_V ne_R_V ne_N_V ne_E_V V_b TC TS T0
  have O_8 := O.at_ (v := .int .i64 4) 8 rfl
  have O_z := O.lt
  go_upto_region 8 with (fail)
  clear O_8 O_z
  refine wp_region_held_drew (S := fun w' => Below w.heap.size w w' ∧ Bk w' gH 27 (#[.int .u32 a, .int .i64 p, .slice A n c, .int .i64 sh, .int .i64 wo, .int .i64 qu, .int .i64 tr]) ∧ Bk w' gO 44 (opv ⟨A0', n0, c0', A1', n1, c1', A2', n2, c2', A3', n3, c3'⟩ ⟨kind, addr, err, aad, used, 4, shard, sought, (lf : Int), bit, word, full, 1, tries, item, stamp⟩) ∧ (∃ v : Array Value, v.size = 20 ∧ Bk w' gR 44 v) ∧ Lists lo1 w' ⟨A0', n0, c0', A1', n1, c1', A2', n2, c2', A3', n3, c3'⟩ l ∧ True) (by kernel_rfl) ⟨K.drew, H.below ((Below.refl _ _).drew), O.below ((Below.refl _ _).drew), ⟨_, rfl, R.below ((Below.refl _ _).drew)⟩, L'.below ((Below.refl _ _).drew), trivial⟩ (fun hHeld => ?_)
  generalize w5.drew = v6 at hHeld ⊢
  refine wpAnyH_take (i := 0) (oi := ⟨some 40, _, _, _, _, _⟩) (v := ?_) rfl (by kernel_rfl) (by kernel_rfl) (by kernel_rfl) (fun _ _ _ h => h) (Or.inl ⟨by rfl, ?_⟩) hHeld ?_
  rotate_left
  · intro ww hSw
    try dsimp only at hSw
    go_simp
    try with_reducible rfl
    try omega
  try simp only [Act.put, List.setIfInBounds_toArray, List.set_cons_zero, List.set_cons_succ]
  refine wpAnyH_take (i := 1) (oi := ⟨some 41, _, _, _, _, _⟩) (v := .agg (#[.int .u32 a, .int .i64 p, .slice A n c, .int .i64 sh, .int .i64 wo, .int .i64 qu, .int .i64 tr])) rfl (by kernel_rfl) (by kernel_rfl) (by kernel_rfl) (fun _ _ _ h => h) (yieldsIf_load_row (by rfl) 27 (.tmp 3) rfl gH rfl 27 _ (0, 0) _ (fun _ hS => hS.2.1) Try.underlying27 rfl cf_sz) hHeld ?_
  try simp only [Act.put, List.setIfInBounds_toArray, List.set_cons_zero, List.set_cons_succ]
  refine wpAnyH_take (i := 2) (oi := ⟨some 42, _, _, _, _, _⟩) (v := .agg (opv ⟨A0', n0, c0', A1', n1, c1', A2', n2, c2', A3', n3, c3'⟩ ⟨kind, addr, err, aad, used, 4, shard, sought, (lf : Int), bit, word, full, 1, tries, item, stamp⟩)) rfl (by kernel_rfl) (by kernel_rfl) (by kernel_rfl) (fun _ _ _ h => h) (yieldsIf_load_row (by rfl) 44 (.tmp 5) rfl gO rfl 44 _ (0, 0) _ (fun _ hS => hS.2.2.1) Try.underlying44 rfl op_sz) hHeld ?_
  try simp only [Act.put, List.setIfInBounds_toArray, List.set_cons_zero, List.set_cons_succ]
  refine wpAnyH_take (i := 3) (oi := ⟨some 43, _, _, _, _, _⟩) (v := ?_) rfl (by kernel_rfl) (by kernel_rfl) (by kernel_rfl) (fun _ _ _ h => h) (Or.inl ⟨by rfl, ?_⟩) hHeld ?_
  rotate_left
  · intro ww hSw
    try dsimp only at hSw
    go_simp
    try with_reducible rfl
    try omega
  try simp only [Act.put, List.setIfInBounds_toArray, List.set_cons_zero, List.set_cons_succ]
  refine wpAnyH_take (i := 4) (oi := ⟨some 44, _, _, _, _, _⟩) (v := ?_) rfl (by kernel_rfl) (by kernel_rfl) (by kernel_rfl) (fun _ _ _ h => h) (Or.inl ⟨by rfl, ?_⟩) hHeld ?_
  rotate_left
  · intro ww hSw
    try dsimp only at hSw
    go_simp
    try with_reducible rfl
    try omega
  try simp only [Act.put, List.setIfInBounds_toArray, List.set_cons_zero, List.set_cons_succ]
  refine wpAnyH_take (i := 6) (oi := ⟨some 46, _, _, _, _, _⟩) (v := ?_) rfl (by kernel_rfl) (by kernel_rfl) (by kernel_rfl) (fun _ _ _ h => h) (Or.inl ⟨by rfl, ?_⟩) hHeld ?_
  rotate_left
  · intro ww hSw
    try dsimp only at hSw
    go_simp
    try with_reducible rfl
    try omega
  try simp only [Act.put, List.setIfInBounds_toArray, List.set_cons_zero, List.set_cons_succ]
  refine wpAnyH_ready (rs := [5]) (by kernel_rfl) (by simp) ?_
  refine AllReadyH.cons (o := ⟨some 45, _, _, _, _, _⟩) rfl (fun K0 hK => ?_) AllReadyH.nil
  go_simp
  refine ((TL _ (hU.below hHeld.1)).out).mono ?_
  rintro e _ ⟨rfl, rfl⟩
  refine hK.out _ _ hHeld (fun hHeld' => ?_)
  clear hHeld hK K0
  have hHeld := hHeld'
  clear hHeld'
  try simp only [Act.put, List.setIfInBounds_toArray, List.set_cons_zero, List.set_cons_succ]
  refine wpAnyH_ready (rs := [7]) (by kernel_rfl) (by simp) ?_
  refine AllReadyH.cons (o := ⟨some 47, _, _, _, _, _⟩) rfl (fun K0 hK => ?_) AllReadyH.nil
  go_simp
  refine ((TK _ _ A0' c0' A1' c1' A2' c2' A3' c3' (hHeld.2.2.2.2.1.asked hx.out)).out).mono ?_
  rintro e v7 ⟨rfl, K'⟩
  refine hK.out _ _ ⟨Below.then_ hHeld.1 K', hHeld.2.1.below K', hHeld.2.2.1.below K', ⟨_, hHeld.2.2.2.1.choose_spec.1, hHeld.2.2.2.1.choose_spec.2.below K'⟩, hHeld.2.2.2.2.1.below K', trivial⟩ (fun hHeld' => ?_)
  clear hHeld K' hK K0
  have hHeld := hHeld'
  clear hHeld'
  try simp only [Act.put, List.setIfInBounds_toArray, List.set_cons_zero, List.set_cons_succ]
  refine wpAnyH_take (i := 8) (oi := ⟨some 6, _, _, _, _, _⟩) (v := ?_) rfl (by kernel_rfl) (by kernel_rfl) (by kernel_rfl) (fun _ _ _ h => h) (Or.inl ⟨by rfl, ?_⟩) hHeld ?_
  rotate_left
  · intro ww hSw
    try dsimp only at hSw
    go_simp
    try with_reducible rfl
    try omega
  try simp only [Act.put, List.setIfInBounds_toArray, List.set_cons_zero, List.set_cons_succ]
  refine wpAnyH_ready (rs := [9]) (by kernel_rfl) (by simp) ?_
  refine AllReadyH.cons (o := ⟨none, _, _, _, _, _⟩) rfl (fun K0 hK => ?_) AllReadyH.nil
  rw [if_pos (by rfl)]
  refine wp_store_row 44 (.tmp 7) (.tmp 47) rfl gR _ rfl rfl _ _ hHeld.2.2.2.1.choose_spec.2 op_sz hHeld.2.2.2.1.choose_spec.1 (opv_one _ _) ?_
  have new_R := Bk.row hHeld.2.2.2.1.choose_spec.2 (opv ⟨A0', n0, c0', A1', n1, c1', A2', n2, c2', A3', n3, c3'⟩ (lk a n0 xs ⟨kind, addr, err, aad, used, 4, shard, sought, (lf : Int), bit, word, full, 1, tries, item, stamp⟩ (gt ys cl) b))
  refine hK.out _ _ ⟨below_setRow hHeld.1 R_b _, hHeld.2.1.row_far ne_H_R _, hHeld.2.2.1.row_far ne_O_R _, ⟨_, rfl, new_R⟩, hHeld.2.2.2.2.1.set_row hRlo _, trivial⟩ (fun hHeld' => ?_)
  clear hHeld hK K0
  have hHeld := hHeld'
  clear hHeld'
  generalize v7.setRow gR (opv ⟨A0', n0, c0', A1', n1, c1', A2', n2, c2', A3', n3, c3'⟩ (lk a n0 xs ⟨kind, addr, err, aad, used, 4, shard, sought, (lf : Int), bit, word, full, 1, tries, item, stamp⟩ (gt ys cl) b)) = v8 at hHeld new_R  ⊢
  try simp only [Act.put]
  refine wpAnyH_done (by kernel_rfl) ?_ _
  replace K := hHeld.1
  replace H := hHeld.2.1
  replace O := hHeld.2.2.1
  replace R := new_R
  clear new_R
  replace L' := hHeld.2.2.2.2.1
  clear hHeld
  go_wp2
  refine bodyPost_ret (v := .tuple #[.slice B m d, .agg (opv ⟨A0', n0, c0', A1', n1, c1', A2', n2, c2', A3', n3, c3'⟩ (lk a n0 xs ⟨kind, addr, err, aad, used, 4, shard, sought, (lf : Int), bit, word, full, 1, tries, item, stamp⟩ (gt ys cl) b))]) ?_ rfl ?_
  · exact results_tc (fn := Try.f72) Try.results72 _ _ gR _ _ (0, 0) _ rfl R Try.underlying44 rfl op_sz
  exact ⟨_, _, _, _, _, _, _, _, _, _, rfl, hU.below K, L'.lower KS1, (fun _ _ h => h), K⟩
set_option maxHeartbeats 2000000 in
theorem step5_1_y (ha : a < 4294967296) (hM : Much a p M) (hn : h.n0 ≤ 65536) (hI : IS .u32 lo w h.A0 h.n0 h.c0 xs) (hin : s.kind = 4 → InB a M h.n0 xs) (L : Lists lo2 w h l) (h1 : h.n1 ≤ 65536) (h2 : h.n2 ≤ 65536) (h3 : h.n3 ≤ 65536) (hU : US w B m d ys) (hm : m ≤ 65536) (hlf : s.leaf = (lf : Int)) (hlv : lf < lv M) (hcm : cl < m) (hb2 : b < 64) (hw : s.word < 18446744073709551616) (hcl : cl = lv M + tv M) (hb : b = lf / 64) (hat : s.at_ = 1) (hph : s.phase = 5) (heq : gt ys cl = s.word) :
    Calls Try.prog 72 #[.agg #[.int .u32 a, .int .i64 p, .slice A n c, .int .i64 sh, .int .i64 wo, .int .i64 qu, .int .i64 tr], .slice B m d, .agg (opv h s)] w (RetStep h (dn a h.n0 xs (worded s (mkd s.word b s.full))) l m (ys.set cl (mkd s.word b s.full)) B w) := by
  have hl3 := lv_le hM.most
  have T0 := fun w (L : Lists lo2 w h l) => Lib.hid (own_any (s := s) L hn h1 h2 h3)
  have hx := Lib.hid (L.i0.uniq hI)
  have TS := fun w => Lib.hid (summaries_any (w := w) (sh := sh) (wo := wo) (qu := qu) (tr := tr) (A := A) (n := n) (c := c) (leaf := (lf : Int)) ha hM)
  have TC : ∀ (w : World) gN gE (_ : w.cell? ⟨gN, 0, none⟩ = some (.int .i64 (M : Nat))) (_ : w.cell? ⟨gE, 0, none⟩ = some (.int .i64 (lf : Nat))), Hid (Calls Try.prog 84 #[.pointer (some ⟨gN, 0, none⟩), .pointer (some ⟨gE, 0, none⟩)] w fun e w' => e = .returned (.tuple #[.int .i64 (cl : Nat), .int .i64 (b : Nat)]) ∧ w = w') := fun w gN gE hN hE => by rw [hcl, hb]; exact clo2_any hN hE hM.most (by omega)
  have TM := fun w => Lib.hid (marked_any s.word b s.full hw hb2 w)
  have hy := mkd_lt s.full hw hb2
  obtain ⟨y, hy1⟩ : ∃ y, y = mkd s.word b s.full := ⟨_, rfl⟩
  rw [← hy1] at TM hy
  have TD := fun w lo A0 c0 A1 c1 A2 c2 A3 c3 (hI : IS .u32 lo w A0 h.n0 c0 xs) => Lib.hid (done_any (w := w) (sh := sh) (wo := wo) (qu := qu) (tr := tr) (A := A) (n := n) (c := c) (h := ⟨A0, h.n0, c0, A1, h.n1, c1, A2, h.n2, c2, A3, h.n3, c3⟩) (s := worded s y) ha hM hn hI hin)
  rw [← hy1]
  clear hy1
  have TW := fun w (U : US w B m d ys) => Lib.hid (heq ▸ swap_new U hcm hm hy)
  clear heq
  clear hcl hb
  rcases s with ⟨kind, addr, err, aad, used, phase, shard, sought, leaf, bit, word, full, at_, tries, item, stamp⟩
  rcases h with ⟨A0, n0, c0, A1, n1, c1, A2, n2, c2, A3, n3, c3⟩
  dsimp only at *
  subst hlf hat hph
  go_enter Try.func72, Try.ntmps72
  go_upto_region 1 with (fail)
  have K := below_alloc w (.cells #[.int .u32 a, .int .i64 p, .slice A n c, .int .i64 sh, .int .i64 wo, .int .i64 qu, .int .i64 tr] 27)
  have H : Bk (World.alloc (w) (.cells #[.int .u32 a, .int .i64 p, .slice A n c, .int .i64 sh, .int .i64 wo, .int .i64 qu, .int .i64 tr] 27)) (World.heap (w)).size 27 (#[.int .u32 a, .int .i64 p, .slice A n c, .int .i64 sh, .int .i64 wo, .int .i64 qu, .int .i64 tr]) := Bk.new _ _ _
  replace H := H.alloc (.cells (opv ⟨A0, n0, c0, A1, n1, c1, A2, n2, c2, A3, n3, c3⟩ ⟨kind, addr, err, aad, used, 5, shard, sought, (lf : Int), bit, word, full, 1, tries, item, stamp⟩) 44)
  replace K := Below.then_ K (below_alloc _ (.cells (opv ⟨A0, n0, c0, A1, n1, c1, A2, n2, c2, A3, n3, c3⟩ ⟨kind, addr, err, aad, used, 5, shard, sought, (lf : Int), bit, word, full, 1, tries, item, stamp⟩) 44))
  have O : Bk (World.alloc ((w).alloc (.cells #[.int .u32 a, .int .i64 p, .slice A n c, .int .i64 sh, .int .i64 wo, .int .i64 qu, .int .i64 tr] 27)) (.cells (opv ⟨A0, n0, c0, A1, n1, c1, A2, n2, c2, A3, n3, c3⟩ ⟨kind, addr, err, aad, used, 5, shard, sought, (lf : Int), bit, word, full, 1, tries, item, stamp⟩) 44)) (World.heap ((w).alloc (.cells #[.int .u32 a, .int .i64 p, .slice A n c, .int .i64 sh, .int .i64 wo, .int .i64 qu, .int .i64 tr] 27))).size 44 (opv ⟨A0, n0, c0, A1, n1, c1, A2, n2, c2, A3, n3, c3⟩ ⟨kind, addr, err, aad, used, 5, shard, sought, (lf : Int), bit, word, full, 1, tries, item, stamp⟩) := Bk.new _ _ _
  replace H := H.alloc (.cells #[.int .i64 0, .int .u32 0, .slice none 0 0, .int .i64 0, .int .u32 0, .bool false, .slice none 0 0, .slice none 0 0, .int .i64 0, .int .i64 0, .int .i64 0, .int .i64 0, .int .i64 0, .int .u64 0, .bool false, .slice none 0 0, .int .i64 0, .int .i64 0, .int .i64 0, .int .i64 0] 44)
  replace O := O.alloc (.cells #[.int .i64 0, .int .u32 0, .slice none 0 0, .int .i64 0, .int .u32 0, .bool false, .slice none 0 0, .slice none 0 0, .int .i64 0, .int .i64 0, .int .i64 0, .int .i64 0, .int .i64 0, .int .u64 0, .bool false, .slice none 0 0, .int .i64 0, .int .i64 0, .int .i64 0, .int .i64 0] 44)
  replace K := Below.then_ K (below_alloc _ (.cells #[.int .i64 0, .int .u32 0, .slice none 0 0, .int .i64 0, .int .u32 0, .bool false, .slice none 0 0, .slice none 0 0, .int .i64 0, .int .i64 0, .int .i64 0, .int .i64 0, .int .i64 0, .int .u64 0, .bool false, .slice none 0 0, .int .i64 0, .int .i64 0, .int .i64 0, .int .i64 0] 44))
  have R : Bk (World.alloc (((w).alloc (.cells #[.int .u32 a, .int .i64 p, .slice A n c, .int .i64 sh, .int .i64 wo, .int .i64 qu, .int .i64 tr] 27)).alloc (.cells (opv ⟨A0, n0, c0, A1, n1, c1, A2, n2, c2, A3, n3, c3⟩ ⟨kind, addr, err, aad, used, 5, shard, sought, (lf : Int), bit, word, full, 1, tries, item, stamp⟩) 44)) (.cells #[.int .i64 0, .int .u32 0, .slice none 0 0, .int .i64 0, .int .u32 0, .bool false, .slice none 0 0, .slice none 0 0, .int .i64 0, .int .i64 0, .int .i64 0, .int .i64 0, .int .i64 0, .int .u64 0, .bool false, .slice none 0 0, .int .i64 0, .int .i64 0, .int .i64 0, .int .i64 0] 44)) (World.heap (((w).alloc (.cells #[.int .u32 a, .int .i64 p, .slice A n c, .int .i64 sh, .int .i64 wo, .int .i64 qu, .int .i64 tr] 27)).alloc (.cells (opv ⟨A0, n0, c0, A1, n1, c1, A2, n2, c2, A3, n3, c3⟩ ⟨kind, addr, err, aad, used, 5, shard, sought, (lf : Int), bit, word, full, 1, tries, item, stamp⟩) 44))).size 44 (opv hd0 sc0) := Bk.new _ _ _
  try simp only [World.size_alloc] at H O R
  generalize (((w).alloc (.cells #[.int .u32 a, .int .i64 p, .slice A n c, .int .i64 sh, .int .i64 wo, .int .i64 qu, .int .i64 tr] 27)).alloc (.cells (opv ⟨A0, n0, c0, A1, n1, c1, A2, n2, c2, A3, n3, c3⟩ ⟨kind, addr, err, aad, used, 5, shard, sought, (lf : Int), bit, word, full, 1, tries, item, stamp⟩) 44)).alloc (.cells #[.int .i64 0, .int .u32 0, .slice none 0 0, .int .i64 0, .int .u32 0, .bool false, .slice none 0 0, .slice none 0 0, .int .i64 0, .int .i64 0, .int .i64 0, .int .i64 0, .int .i64 0, .int .u64 0, .bool false, .slice none 0 0, .int .i64 0, .int .i64 0, .int .i64 0, .int .i64 0] 44) = w1 at H O R K ⊢
  obtain ⟨gR, hgR⟩ : ∃ g, g = w.heap.size + 1 + 1 := ⟨_, rfl⟩
  rw [← hgR] at R ⊢
  obtain ⟨gO, hgO⟩ : ∃ g, g = w.heap.size + 1 := ⟨_, rfl⟩
  rw [← hgO] at O ⊢
  obtain ⟨gH, hgH⟩ : ∃ g, g = w.heap.size := ⟨_, rfl⟩
  rw [← hgH] at H ⊢
  have H_b : w.heap.size ≤ gH := by omega
  have O_b : w.heap.size ≤ gO := by omega
  have R_b : w.heap.size ≤ gR := by omega
  have ne_H_O : gH ≠ gO := by omega
  have ne_H_R : gH ≠ gR := by omega
  have ne_O_R : gO ≠ gR := by omega
  clear hgH hgO hgR
  go_wp2_with (refine wpList_load_row rfl 44 (.tmp 5) rfl gO rfl _ _ (0, 0) _ O Try.underlying44 rfl op_sz ?_)
  refine ((T0 _ (L.below K)).out).mono ?_
  have hOlo := O.lt
  have hRlo := R.lt
  have KS1 := K.size
  rintro e w2 ⟨A0', c0', A1', c1', A2', c2', A3', c3', rfl, L', K'⟩
  replace H := H.below K'
  replace O := O.below K'
  replace R := R.below K'
  replace K := Below.then_ K K'
  clear K'
  generalize w1.heap.size = lo1 at L' hOlo hRlo KS1
  go_upto_region 2 with (refine wpList_store_row rfl 44 (.tmp 5) (.tmp 13) rfl gO _ rfl rfl _ _ O op_sz rfl (opv_one _ _) ?_)
  replace H := H.row_far ne_H_O (opv ⟨A0', n0, c0', A1', n1, c1', A2', n2, c2', A3', n3, c3'⟩ ⟨kind, addr, err, aad, used, 5, shard, sought, (lf : Int), bit, word, full, 1, tries, item, stamp⟩)
  replace R := R.row_far (Ne.symm ne_O_R) (opv ⟨A0', n0, c0', A1', n1, c1', A2', n2, c2', A3', n3, c3'⟩ ⟨kind, addr, err, aad, used, 5, shard, sought, (lf : Int), bit, word, full, 1, tries, item, stamp⟩)
  replace O := O.row (opv ⟨A0', n0, c0', A1', n1, c1', A2', n2, c2', A3', n3, c3'⟩ ⟨kind, addr, err, aad, used, 5, shard, sought, (lf : Int), bit, word, full, 1, tries, item, stamp⟩)
  replace L' := L'.set_row hOlo (opv ⟨A0', n0, c0', A1', n1, c1', A2', n2, c2', A3', n3, c3'⟩ ⟨kind, addr, err, aad, used, 5, shard, sought, (lf : Int), bit, word, full, 1, tries, item, stamp⟩)
  replace K := below_setRow K O_b (opv ⟨A0', n0, c0', A1', n1, c1', A2', n2, c2', A3', n3, c3'⟩ ⟨kind, addr, err, aad, used, 5, shard, sought, (lf : Int), bit, word, full, 1, tries, item, stamp⟩)
  generalize w2.setRow gO (opv ⟨A0', n0, c0', A1', n1, c1', A2', n2, c2', A3', n3, c3'⟩ ⟨kind, addr, err, aad, used, 5, shard, sought, (lf : Int), bit, word, full, 1, tries, item, stamp⟩) = w3 at H O R L' K ⊢
  have O_11 := O.at_ (v := .int .i64 (lf : Int)) 11 rfl
  have O_z := O.lt
  go_wp2_with (refine wpList_load_row rfl 27 (.tmp 3) rfl gH rfl _ _ (0, 0) _ H Try.underlying27 rfl cf_sz ?_)
  refine ((TS _).out).mono ?_
  rintro e w4 ⟨gN, gE, rfl, N, E, hgN, hgE, K'⟩
  clear O_11 O_z hgN hgE
  replace H := H.below K'
  replace O := O.below K'
  replace R := R.below K'
  replace L' := L'.below K'
  replace K := Below.then_ K K'
  clear K'
  have H_lt := H.lt
  have O_lt := O.lt
  have R_lt := R.lt
  have N_lt := N.lt
  have E_lt := E.lt
  have KS := K.size
  go_upto_region 3 with (refine wpList_store_row rfl 101 (.tmp 8) (.tmp 17) rfl _ _ rfl rfl _ _ (Bk.new _ _ _) ar_sz rfl (ar_one _ _) ?_)
  rw [World.setRow_alloc_new]
  replace H := H.alloc (.cells (clos gN gE) 101)
  replace O := O.alloc (.cells (clos gN gE) 101)
  replace R := R.alloc (.cells (clos gN gE) 101)
  replace N := N.alloc (.cells (clos gN gE) 101)
  replace E := E.alloc (.cells (clos gN gE) 101)
  replace L' := L'.below (below_alloc _ (.cells (clos gN gE) 101))
  replace K := Below.then_ K (below_alloc _ (.cells (clos gN gE) 101))
  have V : Bk (World.alloc (w4) (.cells (clos gN gE) 101)) (World.heap (w4)).size 101 (clos gN gE) := Bk.new _ _ _
  try simp only [World.size_alloc] at V
  generalize (w4).alloc (.cells (clos gN gE) 101) = w5 at H O R N E V L' K ⊢
  obtain ⟨gV, hgV⟩ : ∃ g, g = w4.heap.size := ⟨_, rfl⟩
  rw [← hgV] at V ⊢
  have V_b : w.heap.size ≤ gV := by have := KS; omega
  have ne_H_V : gH ≠ gV := by have := H_lt; omega
  have ne_O_V : gO ≠ gV := by have := O_lt; omega
  have ne_R_V : gR ≠ gV := by have := R_lt; omega
  have ne_N_V : gN ≠ gV := by have := N_lt; omega
  have ne_E_V : gE ≠ gV := by have := E_lt; omega
  clear hgV
  clear H_lt O_lt R_lt N_lt E_lt KS
  have O_16 := O.at_ (v := .int .i64 1) 16 rfl
  have O_z := O.lt
  have V_1 := V.at_ (v := .func (.func 84) #[] #[.pointer (some ⟨gN, 0, none⟩), .pointer (some ⟨gE, 0, none⟩)]) 1 rfl
  have V_z := V.lt
  go_upto_region 6 with ((with_reducible refine ((TC _ _ _ (N.at_ (v := .int .i64 M) 0 rfl) (E.at_ (v := .int .i64 lf) 0 rfl)).out).mono ?_); rintro e w' ⟨rfl, rfl⟩)
  clear O_16 O_z V_1 V_z N E V ne_H_V ne_O_V ne_R_V ne_N_V ne_E_V V_b TC TS T0
  have O_8 := O.at_ (v := .int .i64 5) 8 rfl
  have O_z := O.lt
  go_upto_region 10 with (fail)
  clear O_8 O_z
  have O_13 := O.at_ (v := .int .u64 ((word : Nat) : Int)) 13 rfl
  have O_14 := O.at_ (v := .bool (full)) 14 rfl
  have O_z := O.lt
  go_upto_region 11 with ((with_reducible refine ((TM _).out).mono ?_); rintro e w' ⟨rfl, rfl⟩)
  go_wp2_with fail
  refine ((TW _ (hU.below K)).out).mono ?_
  have hOs := O.lt
  have hRs := R.lt
  have KSw := K.size
  rintro e w6 ⟨gS, dS, rfl, U, hgS, K'⟩
  have hgw : w.heap.size ≤ gS := Nat.le_trans KSw hgS
  clear KSw
  clear O_13 O_14 O_z
  replace H := H.below K'
  replace O := O.below K'
  replace R := R.below K'
  replace L' := L'.below K'
  replace K := Below.then_ K K'
  clear K'
  have U' : UL gS w6 (some ⟨gS, 0, none⟩) m dS (ys.set cl y) := ⟨U, fun b o e => by cases e; exact Nat.le_refl _⟩
  clear U
  have hOs2 : gO < gS := by omega
  have hRs2 : gR < gS := by omega
  clear hOs hRs hgS
  have O_13 := O.at_ (v := .int .u64 ((word : Nat) : Int)) 13 rfl
  have O_z := O.lt
  have O_f13 := O.fz 13
  go_upto_region 13 with (fail)
  replace H := H.far (p := ⟨gO, 13, none⟩) ne_H_O (.int .u64 (y : Nat))
  replace R := R.far (p := ⟨gO, 13, none⟩) (Ne.symm ne_O_R) (.int .u64 (y : Nat))
  replace O := O.set_ 13 (.int .u64 (y : Nat))
  replace L' := L'.set_low (p := ⟨gO, 13, none⟩) hOlo (.int .u64 (y : Nat))
  replace U' := U'.set_low (p := ⟨gO, 13, none⟩) hOs2 (.int .u64 (y : Nat))
  replace K := K.setCell (p := ⟨gO, 13, none⟩) O_b (.int .u64 (y : Nat))
  replace O : Bk ((w6).setCell ⟨gO, 13, none⟩ (.int .u64 (y : Nat))) gO 44 (opv ⟨A0', n0, c0', A1', n1, c1', A2', n2, c2', A3', n3, c3'⟩ (worded ⟨kind, addr, err, aad, used, 5, shard, sought, (lf : Int), bit, word, full, 1, tries, item, stamp⟩ y)) := O
  clear O_13 O_z O_f13
  generalize (w6).setCell ⟨gO, 13, none⟩ (.int .u64 (y : Nat)) = w7 at H O R L' U' K ⊢
  go_wp2_with (first | (refine wpList_load_row rfl 27 (.tmp 3) rfl gH rfl _ _ (0, 0) _ H Try.underlying27 rfl cf_sz ?_) | (refine wpList_load_row rfl 44 (.tmp 5) rfl gO rfl _ _ (0, 0) _ O Try.underlying44 rfl op_sz ?_))
  refine ((TD _ _ A0' c0' A1' c1' A2' c2' A3' c3' (L'.asked hx.out)).out).mono ?_
  rintro e w8 ⟨rfl, K'⟩
  replace H := H.below K'
  replace O := O.below K'
  replace R := R.below K'
  replace L' := L'.below K'
  replace U' := U'.below K'
  replace K := Below.then_ K K'
  clear K'
  go_wp2_with (refine wpList_store_row rfl 44 (.tmp 7) (.tmp 70) rfl gR _ rfl rfl _ _ R op_sz rfl (opv_one _ _) ?_)
  replace H := H.row_far ne_H_R (opv ⟨A0', n0, c0', A1', n1, c1', A2', n2, c2', A3', n3, c3'⟩ (dn a n0 xs (worded ⟨kind, addr, err, aad, used, 5, shard, sought, (lf : Int), bit, word, full, 1, tries, item, stamp⟩ y)))
  replace O := O.row_far ne_O_R (opv ⟨A0', n0, c0', A1', n1, c1', A2', n2, c2', A3', n3, c3'⟩ (dn a n0 xs (worded ⟨kind, addr, err, aad, used, 5, shard, sought, (lf : Int), bit, word, full, 1, tries, item, stamp⟩ y)))
  replace R := R.row (opv ⟨A0', n0, c0', A1', n1, c1', A2', n2, c2', A3', n3, c3'⟩ (dn a n0 xs (worded ⟨kind, addr, err, aad, used, 5, shard, sought, (lf : Int), bit, word, full, 1, tries, item, stamp⟩ y)))
  replace L' := L'.set_row hRlo (opv ⟨A0', n0, c0', A1', n1, c1', A2', n2, c2', A3', n3, c3'⟩ (dn a n0 xs (worded ⟨kind, addr, err, aad, used, 5, shard, sought, (lf : Int), bit, word, full, 1, tries, item, stamp⟩ y)))
  replace U' := U'.set_row hRs2 (opv ⟨A0', n0, c0', A1', n1, c1', A2', n2, c2', A3', n3, c3'⟩ (dn a n0 xs (worded ⟨kind, addr, err, aad, used, 5, shard, sought, (lf : Int), bit, word, full, 1, tries, item, stamp⟩ y)))
  replace K := below_setRow K R_b (opv ⟨A0', n0, c0', A1', n1, c1', A2', n2, c2', A3', n3, c3'⟩ (dn a n0 xs (worded ⟨kind, addr, err, aad, used, 5, shard, sought, (lf : Int), bit, word, full, 1, tries, item, stamp⟩ y)))
  generalize w8.setRow gR (opv ⟨A0', n0, c0', A1', n1, c1', A2', n2, c2', A3', n3, c3'⟩ (dn a n0 xs (worded ⟨kind, addr, err, aad, used, 5, shard, sought, (lf : Int), bit, word, full, 1, tries, item, stamp⟩ y))) = w9 at H O R L' U' K ⊢
  refine bodyPost_ret (v := .tuple #[.slice (some ⟨gS, 0, none⟩) m dS, .agg (opv ⟨A0', n0, c0', A1', n1, c1', A2', n2, c2', A3', n3, c3'⟩ (dn a n0 xs (worded ⟨kind, addr, err, aad, used, 5, shard, sought, (lf : Int), bit, word, full, 1, tries, item, stamp⟩ y)))]) ?_ rfl ?_
  · exact results_tc (fn := Try.f72) Try.results72 _ _ gR _ _ (0, 0) _ rfl R Try.underlying44 rfl op_sz
  exact ⟨_, _, _, _, _, _, _, _, _, _, rfl, U'.1, L'.lower KS1, (fun k hk _ b o e => by cases e; omega), K⟩
set_option maxHeartbeats 2000000 in
theorem step5_1_n (ha : a < 4294967296) (hM : Much a p M) (hn : h.n0 ≤ 65536) (hI : IS .u32 lo w h.A0 h.n0 h.c0 xs) (hin : s.kind = 4 → InB a M h.n0 xs) (L : Lists lo2 w h l) (h1 : h.n1 ≤ 65536) (h2 : h.n2 ≤ 65536) (h3 : h.n3 ≤ 65536) (hU : US w B m d ys) (hm : m ≤ 65536) (hlf : s.leaf = (lf : Int)) (hlv : lf < lv M) (hcm : cl < m) (hb2 : b < 64) (hw : s.word < 18446744073709551616) (hcl : cl = lv M + tv M) (hb : b = lf / 64) (hat : s.at_ = 1) (hph : s.phase = 5) (heq : gt ys cl ≠ s.word) :
    Calls Try.prog 72 #[.agg #[.int .u32 a, .int .i64 p, .slice A n c, .int .i64 sh, .int .i64 wo, .int .i64 qu, .int .i64 tr], .slice B m d, .agg (opv h s)] w (RetStep h (dn a h.n0 xs (worded s (mkd s.word b s.full))) l m ys B w) := by
  have hl3 := lv_le hM.most
  have T0 := fun w (L : Lists lo2 w h l) => Lib.hid (own_any (s := s) L hn h1 h2 h3)
  have hx := Lib.hid (L.i0.uniq hI)
  have TS := fun w => Lib.hid (summaries_any (w := w) (sh := sh) (wo := wo) (qu := qu) (tr := tr) (A := A) (n := n) (c := c) (leaf := (lf : Int)) ha hM)
  have TC : ∀ (w : World) gN gE (_ : w.cell? ⟨gN, 0, none⟩ = some (.int .i64 (M : Nat))) (_ : w.cell? ⟨gE, 0, none⟩ = some (.int .i64 (lf : Nat))), Hid (Calls Try.prog 84 #[.pointer (some ⟨gN, 0, none⟩), .pointer (some ⟨gE, 0, none⟩)] w fun e w' => e = .returned (.tuple #[.int .i64 (cl : Nat), .int .i64 (b : Nat)]) ∧ w = w') := fun w gN gE hN hE => by rw [hcl, hb]; exact clo2_any hN hE hM.most (by omega)
  have TM := fun w => Lib.hid (marked_any s.word b s.full hw hb2 w)
  have hy := mkd_lt s.full hw hb2
  obtain ⟨y, hy1⟩ : ∃ y, y = mkd s.word b s.full := ⟨_, rfl⟩
  rw [← hy1] at TM hy
  have TD := fun w lo A0 c0 A1 c1 A2 c2 A3 c3 (hI : IS .u32 lo w A0 h.n0 c0 xs) => Lib.hid (done_any (w := w) (sh := sh) (wo := wo) (qu := qu) (tr := tr) (A := A) (n := n) (c := c) (h := ⟨A0, h.n0, c0, A1, h.n1, c1, A2, h.n2, c2, A3, h.n3, c3⟩) (s := worded s y) ha hM hn hI hin)
  rw [← hy1]
  clear hy1
  have TW := fun w (U : US w B m d ys) => Lib.hid (swap_same (v := y) U hcm heq)
  clear heq
  clear hcl hb
  rcases s with ⟨kind, addr, err, aad, used, phase, shard, sought, leaf, bit, word, full, at_, tries, item, stamp⟩
  rcases h with ⟨A0, n0, c0, A1, n1, c1, A2, n2, c2, A3, n3, c3⟩
  dsimp only at *
  subst hlf hat hph
  go_enter Try.func72, Try.ntmps72
  go_upto_region 1 with (fail)
  have K := below_alloc w (.cells #[.int .u32 a, .int .i64 p, .slice A n c, .int .i64 sh, .int .i64 wo, .int .i64 qu, .int .i64 tr] 27)
  have H : Bk (World.alloc (w) (.cells #[.int .u32 a, .int .i64 p, .slice A n c, .int .i64 sh, .int .i64 wo, .int .i64 qu, .int .i64 tr] 27)) (World.heap (w)).size 27 (#[.int .u32 a, .int .i64 p, .slice A n c, .int .i64 sh, .int .i64 wo, .int .i64 qu, .int .i64 tr]) := Bk.new _ _ _
  replace H := H.alloc (.cells (opv ⟨A0, n0, c0, A1, n1, c1, A2, n2, c2, A3, n3, c3⟩ ⟨kind, addr, err, aad, used, 5, shard, sought, (lf : Int), bit, word, full, 1, tries, item, stamp⟩) 44)
  replace K := Below.then_ K (below_alloc _ (.cells (opv ⟨A0, n0, c0, A1, n1, c1, A2, n2, c2, A3, n3, c3⟩ ⟨kind, addr, err, aad, used, 5, shard, sought, (lf : Int), bit, word, full, 1, tries, item, stamp⟩) 44))
  have O : Bk (World.alloc ((w).alloc (.cells #[.int .u32 a, .int .i64 p, .slice A n c, .int .i64 sh, .int .i64 wo, .int .i64 qu, .int .i64 tr] 27)) (.cells (opv ⟨A0, n0, c0, A1, n1, c1, A2, n2, c2, A3, n3, c3⟩ ⟨kind, addr, err, aad, used, 5, shard, sought, (lf : Int), bit, word, full, 1, tries, item, stamp⟩) 44)) (World.heap ((w).alloc (.cells #[.int .u32 a, .int .i64 p, .slice A n c, .int .i64 sh, .int .i64 wo, .int .i64 qu, .int .i64 tr] 27))).size 44 (opv ⟨A0, n0, c0, A1, n1, c1, A2, n2, c2, A3, n3, c3⟩ ⟨kind, addr, err, aad, used, 5, shard, sought, (lf : Int), bit, word, full, 1, tries, item, stamp⟩) := Bk.new _ _ _
  replace H := H.alloc (.cells #[.int .i64 0, .int .u32 0, .slice none 0 0, .int .i64 0, .int .u32 0, .bool false, .slice none 0 0, .slice none 0 0, .int .i64 0, .int .i64 0, .int .i64 0, .int .i64 0, .int .i64 0, .int .u64 0, .bool false, .slice none 0 0, .int .i64 0, .int .i64 0, .int .i64 0, .int .i64 0] 44)
  replace O := O.alloc (.cells #[.int .i64 0, .int .u32 0, .slice none 0 0, .int .i64 0, .int .u32 0, .bool false, .slice none 0 0, .slice none 0 0, .int .i64 0, .int .i64 0, .int .i64 0, .int .i64 0, .int .i64 0, .int .u64 0, .bool false, .slice none 0 0, .int .i64 0, .int .i64 0, .int .i64 0, .int .i64 0] 44)
  replace K := Below.then_ K (below_alloc _ (.cells #[.int .i64 0, .int .u32 0, .slice none 0 0, .int .i64 0, .int .u32 0, .bool false, .slice none 0 0, .slice none 0 0, .int .i64 0, .int .i64 0, .int .i64 0, .int .i64 0, .int .i64 0, .int .u64 0, .bool false, .slice none 0 0, .int .i64 0, .int .i64 0, .int .i64 0, .int .i64 0] 44))
  have R : Bk (World.alloc (((w).alloc (.cells #[.int .u32 a, .int .i64 p, .slice A n c, .int .i64 sh, .int .i64 wo, .int .i64 qu, .int .i64 tr] 27)).alloc (.cells (opv ⟨A0, n0, c0, A1, n1, c1, A2, n2, c2, A3, n3, c3⟩ ⟨kind, addr, err, aad, used, 5, shard, sought, (lf : Int), bit, word, full, 1, tries, item, stamp⟩) 44)) (.cells #[.int .i64 0, .int .u32 0, .slice none 0 0, .int .i64 0, .int .u32 0, .bool false, .slice none 0 0, .slice none 0 0, .int .i64 0, .int .i64 0, .int .i64 0, .int .i64 0, .int .i64 0, .int .u64 0, .bool false, .slice none 0 0, .int .i64 0, .int .i64 0, .int .i64 0, .int .i64 0] 44)) (World.heap (((w).alloc (.cells #[.int .u32 a, .int .i64 p, .slice A n c, .int .i64 sh, .int .i64 wo, .int .i64 qu, .int .i64 tr] 27)).alloc (.cells (opv ⟨A0, n0, c0, A1, n1, c1, A2, n2, c2, A3, n3, c3⟩ ⟨kind, addr, err, aad, used, 5, shard, sought, (lf : Int), bit, word, full, 1, tries, item, stamp⟩) 44))).size 44 (opv hd0 sc0) := Bk.new _ _ _
  try simp only [World.size_alloc] at H O R
  generalize (((w).alloc (.cells #[.int .u32 a, .int .i64 p, .slice A n c, .int .i64 sh, .int .i64 wo, .int .i64 qu, .int .i64 tr] 27)).alloc (.cells (opv ⟨A0, n0, c0, A1, n1, c1, A2, n2, c2, A3, n3, c3⟩ ⟨kind, addr, err, aad, used, 5, shard, sought, (lf : Int), bit, word, full, 1, tries, item, stamp⟩) 44)).alloc (.cells #[.int .i64 0, .int .u32 0, .slice none 0 0, .int .i64 0, .int .u32 0, .bool false, .slice none 0 0, .slice none 0 0, .int .i64 0, .int .i64 0, .int .i64 0, .int .i64 0, .int .i64 0, .int .u64 0, .bool false, .slice none 0 0, .int .i64 0, .int .i64 0, .int .i64 0, .int .i64 0] 44) = w1 at H O R K ⊢
  obtain ⟨gR, hgR⟩ : ∃ g, g = w.heap.size + 1 + 1 := ⟨_, rfl⟩
  rw [← hgR] at R ⊢
  obtain ⟨gO, hgO⟩ : ∃ g, g = w.heap.size + 1 := ⟨_, rfl⟩
  rw [← hgO] at O ⊢
  obtain ⟨gH, hgH⟩ : ∃ g, g = w.heap.size := ⟨_, rfl⟩
  rw [← hgH] at H ⊢
  have H_b : w.heap.size ≤ gH := by omega
  have O_b : w.heap.size ≤ gO := by omega
  have R_b : w.heap.size ≤ gR := by omega
  have ne_H_O : gH ≠ gO := by omega
  have ne_H_R : gH ≠ gR := by omega
  have ne_O_R : gO ≠ gR := by omega
  clear hgH hgO hgR
  go_wp2_with (refine wpList_load_row rfl 44 (.tmp 5) rfl gO rfl _ _ (0, 0) _ O Try.underlying44 rfl op_sz ?_)
  refine ((T0 _ (L.below K)).out).mono ?_
  have hOlo := O.lt
  have hRlo := R.lt
  have KS1 := K.size
  rintro e w2 ⟨A0', c0', A1', c1', A2', c2', A3', c3', rfl, L', K'⟩
  replace H := H.below K'
  replace O := O.below K'
  replace R := R.below K'
  replace K := Below.then_ K K'
  clear K'
  generalize w1.heap.size = lo1 at L' hOlo hRlo KS1
  go_upto_region 2 with (refine wpList_store_row rfl 44 (.tmp 5) (.tmp 13) rfl gO _ rfl rfl _ _ O op_sz rfl (opv_one _ _) ?_)
  replace H := H.row_far ne_H_O (opv ⟨A0', n0, c0', A1', n1, c1', A2', n2, c2', A3', n3, c3'⟩ ⟨kind, addr, err, aad, used, 5, shard, sought, (lf : Int), bit, word, full, 1, tries, item, stamp⟩)
  replace R := R.row_far (Ne.symm ne_O_R) (opv ⟨A0', n0, c0', A1', n1, c1', A2', n2, c2', A3', n3, c3'⟩ ⟨kind, addr, err, aad, used, 5, shard, sought, (lf : Int), bit, word, full, 1, tries, item, stamp⟩)
  replace O := O.row (opv ⟨A0', n0, c0', A1', n1, c1', A2', n2, c2', A3', n3, c3'⟩ ⟨kind, addr, err, aad, used, 5, shard, sought, (lf : Int), bit, word, full, 1, tries, item, stamp⟩)
  replace L' := L'.set_row hOlo (opv ⟨A0', n0, c0', A1', n1, c1', A2', n2, c2', A3', n3, c3'⟩ ⟨kind, addr, err, aad, used, 5, shard, sought, (lf : Int), bit, word, full, 1, tries, item, stamp⟩)
  replace K := below_setRow K O_b (opv ⟨A0', n0, c0', A1', n1, c1', A2', n2, c2', A3', n3, c3'⟩ ⟨kind, addr, err, aad, used, 5, shard, sought, (lf : Int), bit, word, full, 1, tries, item, stamp⟩)
  generalize w2.setRow gO (opv ⟨A0', n0, c0', A1', n1, c1', A2', n2, c2', A3', n3, c3'⟩ ⟨kind, addr, err, aad, used, 5, shard, sought, (lf : Int), bit, word, full, 1, tries, item, stamp⟩) = w3 at H O R L' K ⊢
  have O_11 := O.at_ (v := .int .i64 (lf : Int)) 11 rfl
  have O_z := O.lt
  go_wp2_with (refine wpList_load_row rfl 27 (.tmp 3) rfl gH rfl _ _ (0, 0) _ H Try.underlying27 rfl cf_sz ?_)
  refine ((TS _).out).mono ?_
  rintro e w4 ⟨gN, gE, rfl, N, E, hgN, hgE, K'⟩
  clear O_11 O_z hgN hgE
  replace H := H.below K'
  replace O := O.below K'
  replace R := R.below K'
  replace L' := L'.below K'
  replace K := Below.then_ K K'
  clear K'
  have H_lt := H.lt
  have O_lt := O.lt
  have R_lt := R.lt
  have N_lt := N.lt
  have E_lt := E.lt
  have KS := K.size
  go_upto_region 3 with (refine wpList_store_row rfl 101 (.tmp 8) (.tmp 17) rfl _ _ rfl rfl _ _ (Bk.new _ _ _) ar_sz rfl (ar_one _ _) ?_)
  rw [World.setRow_alloc_new]
  replace H := H.alloc (.cells (clos gN gE) 101)
  replace O := O.alloc (.cells (clos gN gE) 101)
  replace R := R.alloc (.cells (clos gN gE) 101)
  replace N := N.alloc (.cells (clos gN gE) 101)
  replace E := E.alloc (.cells (clos gN gE) 101)
  replace L' := L'.below (below_alloc _ (.cells (clos gN gE) 101))
  replace K := Below.then_ K (below_alloc _ (.cells (clos gN gE) 101))
  have V : Bk (World.alloc (w4) (.cells (clos gN gE) 101)) (World.heap (w4)).size 101 (clos gN gE) := Bk.new _ _ _
  try simp only [World.size_alloc] at V
  generalize (w4).alloc (.cells (clos gN gE) 101) = w5 at H O R N E V L' K ⊢
  obtain ⟨gV, hgV⟩ : ∃ g, g = w4.heap.size := ⟨_, rfl⟩
  rw [← hgV] at V ⊢
  have V_b : w.heap.size ≤ gV := by have := KS; omega
  have ne_H_V : gH ≠ gV := by have := H_lt; omega
  have ne_O_V : gO ≠ gV := by have := O_lt; omega
  have ne_R_V : gR ≠ gV := by have := R_lt; omega
  have ne_N_V : gN ≠ gV := by have := N_lt; omega
  have ne_E_V : gE ≠ gV := by have := E_lt; omega
  clear hgV
  clear H_lt O_lt R_lt N_lt E_lt KS
  have O_16 := O.at_ (v := .int .i64 1) 16 rfl
  have O_z := O.lt
  have V_1 := V.at_ (v := .func (.func 84) #[] #[.pointer (some ⟨gN, 0, none⟩), .pointer (some ⟨gE, 0, none⟩)]) 1 rfl
  have V_z := V.lt
  go_upto_region 6 with ((with_reducible refine ((TC _ _ _ (N.at_ (v := .int .i64 M) 0 rfl) (E.at_ (v := .int .i64 lf) 0 rfl)).out).mono ?_); rintro e w' ⟨rfl, rfl⟩)
  clear O_16 O_z V_1 V_z N E V ne_H_V ne_O_V ne_R_V ne_N_V ne_E_V V_b TC TS T0
  have O_8 := O.at_ (v := .int .i64 5) 8 rfl
  have O_z := O.lt
  go_upto_region 10 with (fail)
  clear O_8 O_z
  have O_13 := O.at_ (v := .int .u64 ((word : Nat) : Int)) 13 rfl
  have O_14 := O.at_ (v := .bool (full)) 14 rfl
  have O_z := O.lt
  go_upto_region 11 with ((with_reducible refine ((TM _).out).mono ?_); rintro e w' ⟨rfl, rfl⟩)
  go_wp2_with fail
  refine ((TW _ (hU.below K)).out).mono ?_
  have hOs := O.lt
  have hRs := R.lt
  rintro e w6 ⟨rfl, K'⟩
  clear O_13 O_14 O_z
  replace H := H.below K'
  replace O := O.below K'
  replace R := R.below K'
  replace L' := L'.below K'
  replace K := Below.then_ K K'
  clear K'
  clear hOs hRs
  have O_13 := O.at_ (v := .int .u64 ((word : Nat) : Int)) 13 rfl
  have O_z := O.lt
  have O_f13 := O.fz 13
  go_upto_region 13 with (fail)
  replace H := H.far (p := ⟨gO, 13, none⟩) ne_H_O (.int .u64 (y : Nat))
  replace R := R.far (p := ⟨gO, 13, none⟩) (Ne.symm ne_O_R) (.int .u64 (y : Nat))
  replace O := O.set_ 13 (.int .u64 (y : Nat))
  replace L' := L'.set_low (p := ⟨gO, 13, none⟩) hOlo (.int .u64 (y : Nat))
  replace K := K.setCell (p := ⟨gO, 13, none⟩) O_b (.int .u64 (y : Nat))
  replace O : Bk ((w6).setCell ⟨gO, 13, none⟩ (.int .u64 (y : Nat))) gO 44 (opv ⟨A0', n0, c0', A1', n1, c1', A2', n2, c2', A3', n3, c3'⟩ (worded ⟨kind, addr, err, aad, used, 5, shard, sought, (lf : Int), bit, word, full, 1, tries, item, stamp⟩ y)) := O
  clear O_13 O_z O_f13
  generalize (w6).setCell ⟨gO, 13, none⟩ (.int .u64 (y : Nat)) = w7 at H O R L' K ⊢
  go_wp2_with (first | (refine wpList_load_row rfl 27 (.tmp 3) rfl gH rfl _ _ (0, 0) _ H Try.underlying27 rfl cf_sz ?_) | (refine wpList_load_row rfl 44 (.tmp 5) rfl gO rfl _ _ (0, 0) _ O Try.underlying44 rfl op_sz ?_))
  refine ((TD _ _ A0' c0' A1' c1' A2' c2' A3' c3' (L'.asked hx.out)).out).mono ?_
  rintro e w8 ⟨rfl, K'⟩
  replace H := H.below K'
  replace O := O.below K'
  replace R := R.below K'
  replace L' := L'.below K'
  replace K := Below.then_ K K'
  clear K'
  go_wp2_with (refine wpList_store_row rfl 44 (.tmp 7) (.tmp 70) rfl gR _ rfl rfl _ _ R op_sz rfl (opv_one _ _) ?_)
  replace H := H.row_far ne_H_R (opv ⟨A0', n0, c0', A1', n1, c1', A2', n2, c2', A3', n3, c3'⟩ (dn a n0 xs (worded ⟨kind, addr, err, aad, used, 5, shard, sought, (lf : Int), bit, word, full, 1, tries, item, stamp⟩ y)))
  replace O := O.row_far ne_O_R (opv ⟨A0', n0, c0', A1', n1, c1', A2', n2, c2', A3', n3, c3'⟩ (dn a n0 xs (worded ⟨kind, addr, err, aad, used, 5, shard, sought, (lf : Int), bit, word, full, 1, tries, item, stamp⟩ y)))
  replace R := R.row (opv ⟨A0', n0, c0', A1', n1, c1', A2', n2, c2', A3', n3, c3'⟩ (dn a n0 xs (worded ⟨kind, addr, err, aad, used, 5, shard, sought, (lf : Int), bit, word, full, 1, tries, item, stamp⟩ y)))
  replace L' := L'.set_row hRlo (opv ⟨A0', n0, c0', A1', n1, c1', A2', n2, c2', A3', n3, c3'⟩ (dn a n0 xs (worded ⟨kind, addr, err, aad, used, 5, shard, sought, (lf : Int), bit, word, full, 1, tries, item, stamp⟩ y)))
  replace K := below_setRow K R_b (opv ⟨A0', n0, c0', A1', n1, c1', A2', n2, c2', A3', n3, c3'⟩ (dn a n0 xs (worded ⟨kind, addr, err, aad, used, 5, shard, sought, (lf : Int), bit, word, full, 1, tries, item, stamp⟩ y)))
  generalize w8.setRow gR (opv ⟨A0', n0, c0', A1', n1, c1', A2', n2, c2', A3', n3, c3'⟩ (dn a n0 xs (worded ⟨kind, addr, err, aad, used, 5, shard, sought, (lf : Int), bit, word, full, 1, tries, item, stamp⟩ y))) = w9 at H O R L' K ⊢
  refine bodyPost_ret (v := .tuple #[.slice B m d, .agg (opv ⟨A0', n0, c0', A1', n1, c1', A2', n2, c2', A3', n3, c3'⟩ (dn a n0 xs (worded ⟨kind, addr, err, aad, used, 5, shard, sought, (lf : Int), bit, word, full, 1, tries, item, stamp⟩ y)))]) ?_ rfl ?_
  · exact results_tc (fn := Try.f72) Try.results72 _ _ gR _ _ (0, 0) _ rfl R Try.underlying44 rfl op_sz
  exact ⟨_, _, _, _, _, _, _, _, _, _, rfl, hU.below K, L'.lower KS1, (fun _ _ h => h), K⟩
end
end Go.Proofs.Ytacgjaohfcoigaa

/-
  Step, the program's and the document's, each as one contract. Conditions: a configuration that may be, as many cells as there are, an operation whose leaf there is, with At 0 or 1 and Phase 4 or 5, at most 65536 addresses, all the block's.
-/
namespace Go.Proofs.Ytacgjaohfcoigaa
set_option maxRecDepth 100000
open Go.RowKit
set_option linter.unusedVariables false
theorem cel0 {M lf : Nat} {s : Sc} (hlf : s.leaf = (lf : Int)) (h : s.at_ = 0) : hcel M s = lv M + lf / 64 ∧ bt s = lf % 64 := by
  unfold hcel bt; rw [if_pos h, if_pos h, hlf]; exact ⟨rfl, rfl⟩
theorem cel1 {M lf : Nat} {s : Sc} (hlf : s.leaf = (lf : Int)) (h : s.at_ = 1) : hcel M s = lv M + tv M ∧ bt s = lf / 64 := by
  unfold hcel bt; rw [if_neg (by omega), if_neg (by omega), hlf]; exact ⟨rfl, rfl⟩
section
variable {w : World} {lo lo2 a M m d lf : Nat} {p sh wo qu tr : Int} {A B : Option Addr} {n c : Nat} {xs : List Int} {ys : List Nat} {h : Hd} {s : Sc} {l : Ls}
theorem stepb {M lf m : Nat} (hM : M ≤ 65536) (hlv : lf < lv M) (hmm : m = lv M + tv M + 1) : m ≤ 65536 ∧ lv M + lf / 64 < m ∧ lv M + tv M < m ∧ lf % 64 < 64 ∧ lf / 64 < 64 := by
  have h1 := lv_le hM
  have h2 := tv_le hM
  have h3 : lv M ≤ 64 * tv M := by unfold tv tq; omega
  omega
theorem step_any (ha : a < 4294967296) (hM : Much a p M) (hn : h.n0 ≤ 65536) (hI : IS .u32 lo w h.A0 h.n0 h.c0 xs) (hin : s.kind = 4 → InB a M h.n0 xs) (L : Lists lo2 w h l) (h1 : h.n1 ≤ 65536) (h2 : h.n2 ≤ 65536) (h3 : h.n3 ≤ 65536) (hU : US w B m d ys) (hmm : m = lv M + tv M + 1) (hlf : s.leaf = (lf : Int)) (hlv : lf < lv M) (hat : s.at_ = 0 ∨ s.at_ = 1) (hph : s.phase = 4 ∨ s.phase = 5) (hw : s.word < 18446744073709551616) :
    Calls Try.prog 72 #[.agg #[.int .u32 a, .int .i64 p, .slice A n c, .int .i64 sh, .int .i64 wo, .int .i64 qu, .int .i64 tr], .slice B m d, .agg (opv h s)] w (RetStep h (stO a M h.n0 xs ys s) l m (stC M ys s) B w) := by
  have hb := stepb hM.most hlv hmm
  rcases hat with hat | hat
  · obtain ⟨e1, e2⟩ := cel0 (M := M) hlf hat
    rcases hph with hph | hph
    · unfold stO stC; rw [if_pos hph, if_pos hph]
      exact step4_0 ha hM hn hI hin L h1 h2 h3 hU hb.1 hlf hlv (by omega) (by omega) hw e1 e2 hat hph
    · unfold stO stC; rw [if_neg (by omega), if_neg (by omega)]
      by_cases he : gt ys (hcel M s) = s.word
      · rw [if_pos he]; exact step5_0_y ha hM hn hI hin L h1 h2 h3 hU hb.1 hlf hlv (by omega) (by omega) hw e1 e2 hat hph he
      · rw [if_neg he]; exact step5_0_n ha hM hn hI hin L h1 h2 h3 hU hb.1 hlf hlv (by omega) (by omega) hw e1 e2 hat hph he
  · obtain ⟨e1, e2⟩ := cel1 (M := M) hlf hat
    rcases hph with hph | hph
    · unfold stO stC; rw [if_pos hph, if_pos hph]
      exact step4_1 ha hM hn hI hin L h1 h2 h3 hU hb.1 hlf hlv (by omega) (by omega) hw e1 e2 hat hph
    · unfold stO stC; rw [if_neg (by omega), if_neg (by omega)]
      by_cases he : gt ys (hcel M s) = s.word
      · rw [if_pos he]; exact step5_1_y ha hM hn hI hin L h1 h2 h3 hU hb.1 hlf hlv (by omega) (by omega) hw e1 e2 hat hph he
      · rw [if_neg he]; exact step5_1_n ha hM hn hI hin L h1 h2 h3 hU hb.1 hlf hlv (by omega) (by omega) hw e1 e2 hat hph he
end
end Go.Proofs.Ytacgjaohfcoigaa

/-
  Operations that claim, as functions of numbers; what a step answers. No program in it.
-/
namespace Go.Proofs.Ytacgjaohfcoigaa
set_option maxRecDepth 100000
open Go.RowKit
/-- A bit was found. -/
def fndS (s : Sc) (x b : Nat) : Sc := ⟨s.kind, s.addr, s.err, s.aad, s.used, 3, s.shard, s.sought, s.leaf, (b : Int), x, s.full, s.at_, s.tries, s.item, s.stamp⟩
/-- The leaf is read again. -/
def againS (s : Sc) : Sc := ⟨s.kind, s.addr, s.err, s.aad, s.used, if s.kind = 1 then 2 else 8, s.shard, s.sought, s.leaf, s.bit, 0, s.full, s.at_, s.tries, s.item, s.stamp⟩
/-- The bit is claimed: its address. -/
def adS (s : Sc) (y : Nat) : Sc := ⟨s.kind, s.addr, s.err, (y : Int), s.used, s.phase, s.shard, s.sought, s.leaf, s.bit, s.word, s.full, s.at_, s.tries, s.item, s.stamp⟩
/-- The claim is full. -/
def fullS (s : Sc) : Sc := ⟨s.kind, s.addr, s.err, s.aad, s.used, 4, s.shard, s.sought, s.leaf, s.bit, 0, true, 0, s.tries, s.item, s.stamp⟩
def lookS (sh : Int) (x : Nat) (s : Sc) : Sc := if fb x 32 = true then fndS s x (fi x 32) else if s.sought + 1 < sh then seekS s else firstS s
/-- The address of the operation's bit. -/
def adr (a lf b : Nat) : Nat := (a + (32 * lf + b)) % 4294967296
def claimS (a n : Nat) (xs : List Int) (x : Nat) (s : Sc) : Sc :=
  if x = s.word then (if fl (clm s.word s.bit.toNat) = true then fullS (adS s (adr a s.leaf.toNat s.bit.toNat)) else gon a n xs (adS s (adr a s.leaf.toNat s.bit.toNat))) else againS s
def claimC (ys : List Nat) (s : Sc) : List Nat := if gt ys s.leaf.toNat = s.word then ys.set s.leaf.toNat (clm s.word s.bit.toNat) else ys
/-- What a step answers: cells that are new or those that were handed in, an operation, whether it took effect. -/
def RetStp (lo : Nat) (n0 : Nat) (s : Sc) (l : Ls) (m : Nat) (ys : List Nat) (b : Bool) (B0 : Option Addr) (w : World) (e : Ending) (w' : World) : Prop :=
  ∃ A0 c0 A1 n1 c1 A2 n2 c2 A3 n3 c3 B d, e = .returned (.tuple #[.slice B m d, .agg (opv ⟨A0, n0, c0, A1, n1, c1, A2, n2, c2, A3, n3, c3⟩ s), .bool b]) ∧ US w' B m d ys ∧ Lists lo w' ⟨A0, n0, c0, A1, n1, c1, A2, n2, c2, A3, n3, c3⟩ l ∧ (∀ k, k < w.heap.size → Apart k B0 → Apart k B) ∧ Below w.heap.size w w'
end Go.Proofs.Ytacgjaohfcoigaa

/-
  What claim.again and claim.look answer. Conditions: numbers that fit.
-/
namespace Go.Proofs.Ytacgjaohfcoigaa
set_option maxRecDepth 100000
open Go.RowKit
set_option linter.unusedVariables false
section
variable {w : World} {lo a M m d lf bt : Nat} {p sh wo qu tr : Int} {A B : Option Addr} {n c : Nat} {xs : List Int} {ys : List Nat} {h : Hd} {s : Sc} {l : Ls}
set_option maxRecDepth 100000 in
set_option maxHeartbeats 2000000 in
theorem again_grant (hk : s.kind = 1) :
    Calls Try.prog 90 #[.agg (opv h s)] w (RetOp h (againS s) w) := by
  have hk2 : s.kind = 1 := hk
  have e0 : (s.kind == 1) = true := by simp [hk]
  rw [show againS s = ⟨s.kind, s.addr, s.err, s.aad, s.used, 2, s.shard, s.sought, s.leaf, s.bit, 0, s.full, s.at_, s.tries, s.item, s.stamp⟩ by unfold againS; rw [if_pos hk]]
  clear hk hk2
  rcases s with ⟨kind, addr, err, aad, used, phase, shard, sought, leaf, bit, word, full, at_, tries, item, stamp⟩
  rcases h with ⟨A0, n0, c0, A1, n1, c1, A2, n2, c2, A3, n3, c3⟩
  dsimp only at *
  go_enter Try.func90, Try.ntmps90
  go_upto_region 1 with (fail)
  have L := Loc.start w
  replace L := ((L).alloc (opv ⟨A0, n0, c0, A1, n1, c1, A2, n2, c2, A3, n3, c3⟩ ⟨kind, addr, err, aad, used, phase, shard, sought, leaf, bit, word, full, at_, tries, item, stamp⟩) 44).alloc #[.int .i64 0, .int .u32 0, .slice none 0 0, .int .i64 0, .int .u32 0, .bool false, .slice none 0 0, .slice none 0 0, .int .i64 0, .int .i64 0, .int .i64 0, .int .i64 0, .int .i64 0, .int .u64 0, .bool false, .slice none 0 0, .int .i64 0, .int .i64 0, .int .i64 0, .int .i64 0] 44
  try simp only [World.size_alloc] at L
  replace L := L.is 0 (opv hd0 sc0) rfl
  try dsimp only [nput] at L
  generalize ((w).alloc (.cells (opv ⟨A0, n0, c0, A1, n1, c1, A2, n2, c2, A3, n3, c3⟩ ⟨kind, addr, err, aad, used, phase, shard, sought, leaf, bit, word, full, at_, tries, item, stamp⟩) 44)).alloc (.cells #[.int .i64 0, .int .u32 0, .slice none 0 0, .int .i64 0, .int .u32 0, .bool false, .slice none 0 0, .slice none 0 0, .int .i64 0, .int .i64 0, .int .i64 0, .int .i64 0, .int .i64 0, .int .u64 0, .bool false, .slice none 0 0, .int .i64 0, .int .i64 0, .int .i64 0, .int .i64 0] 44) = w1 at L ⊢
  generalize w.heap.size + 1 = gR at L ⊢
  generalize w.heap.size = gO at L ⊢
  have O_8 := L.at_ 1 8 rfl (v := .int .i64 phase) rfl
  have O_13 := L.at_ 1 13 rfl (v := .int .u64 ((word : Nat) : Int)) rfl
  have O_z := L.lt 1 rfl
  have O_f8 := L.fz 1 8 rfl
  have O_f13 := L.fz 1 13 rfl
  go_upto_region 2 with fail
  clear O_8 O_13 O_z O_f8 O_f13
  replace L := (((L.set 1 8 rfl (.int .i64 8)).set 1 13 rfl (.int .u64 0)).is 1 (opv ⟨A0, n0, c0, A1, n1, c1, A2, n2, c2, A3, n3, c3⟩ ⟨kind, addr, err, aad, used, 8, shard, sought, leaf, bit, 0, full, at_, tries, item, stamp⟩) rfl)
  try dsimp only [nput] at L
  generalize ((w1).setCell ⟨gO, 8, none⟩ (.int .i64 8)).setCell ⟨gO, 13, none⟩ (.int .u64 0) = w2 at L ⊢
  have O_0 := L.at_ 1 0 rfl (v := .int .i64 kind) rfl
  have O_8 := L.at_ 1 8 rfl (v := .int .i64 8) rfl
  have O_z := L.lt 1 rfl
  have O_f8 := L.fz 1 8 rfl
  go_upto_region 4 with fail
  clear O_0 O_8 O_z O_f8
  replace L := ((L.set 1 8 rfl (.int .i64 2)).is 1 (opv ⟨A0, n0, c0, A1, n1, c1, A2, n2, c2, A3, n3, c3⟩ ⟨kind, addr, err, aad, used, 2, shard, sought, leaf, bit, 0, full, at_, tries, item, stamp⟩) rfl)
  try dsimp only [nput] at L
  generalize (w2).setCell ⟨gO, 8, none⟩ (.int .i64 2) = w3 at L ⊢
  go_wp2_with (first | (refine wpList_load_row rfl 44 (.tmp 1) rfl gO rfl _ _ (0, 0) _ (L.bk_ 1 rfl) Try.underlying44 rfl op_sz ?_) | (refine wpList_store_row rfl 44 (.tmp 2) (.tmp 10) rfl gR _ rfl rfl _ _ (L.bk_ 0 rfl) op_sz rfl (opv_one _ _) ?_))
  replace L := (L.row 0 rfl (opv ⟨A0, n0, c0, A1, n1, c1, A2, n2, c2, A3, n3, c3⟩ ⟨kind, addr, err, aad, used, 2, shard, sought, leaf, bit, 0, full, at_, tries, item, stamp⟩))
  try dsimp only [nput] at L
  generalize (w3).setRow gR (opv ⟨A0, n0, c0, A1, n1, c1, A2, n2, c2, A3, n3, c3⟩ ⟨kind, addr, err, aad, used, 2, shard, sought, leaf, bit, 0, full, at_, tries, item, stamp⟩) = w4 at L ⊢
  refine bodyPost_ret (v := .agg (opv ⟨A0, n0, c0, A1, n1, c1, A2, n2, c2, A3, n3, c3⟩ ⟨kind, addr, err, aad, used, 2, shard, sought, leaf, bit, 0, full, at_, tries, item, stamp⟩)) ?_ rfl ?_
  · exact results_cell_row (fn := Try.f90) Try.results90 _ _ gR _ _ (0, 0) _ rfl (L.bk_ 0 rfl) Try.underlying44 rfl op_sz
  exact ⟨rfl, L.K⟩
set_option maxRecDepth 100000 in
set_option maxHeartbeats 2000000 in
theorem again_other (hk : s.kind ≠ 1) :
    Calls Try.prog 90 #[.agg (opv h s)] w (RetOp h (againS s) w) := by
  have e0 : (s.kind == 1) = false := by simp [hk]
  rw [show againS s = ⟨s.kind, s.addr, s.err, s.aad, s.used, 8, s.shard, s.sought, s.leaf, s.bit, 0, s.full, s.at_, s.tries, s.item, s.stamp⟩ by unfold againS; rw [if_neg hk]]
  clear hk
  rcases s with ⟨kind, addr, err, aad, used, phase, shard, sought, leaf, bit, word, full, at_, tries, item, stamp⟩
  rcases h with ⟨A0, n0, c0, A1, n1, c1, A2, n2, c2, A3, n3, c3⟩
  dsimp only at *
  go_enter Try.func90, Try.ntmps90
  go_upto_region 1 with (fail)
  have L := Loc.start w
  replace L := ((L).alloc (opv ⟨A0, n0, c0, A1, n1, c1, A2, n2, c2, A3, n3, c3⟩ ⟨kind, addr, err, aad, used, phase, shard, sought, leaf, bit, word, full, at_, tries, item, stamp⟩) 44).alloc #[.int .i64 0, .int .u32 0, .slice none 0 0, .int .i64 0, .int .u32 0, .bool false, .slice none 0 0, .slice none 0 0, .int .i64 0, .int .i64 0, .int .i64 0, .int .i64 0, .int .i64 0, .int .u64 0, .bool false, .slice none 0 0, .int .i64 0, .int .i64 0, .int .i64 0, .int .i64 0] 44
  try simp only [World.size_alloc] at L
  replace L := L.is 0 (opv hd0 sc0) rfl
  try dsimp only [nput] at L
  generalize ((w).alloc (.cells (opv ⟨A0, n0, c0, A1, n1, c1, A2, n2, c2, A3, n3, c3⟩ ⟨kind, addr, err, aad, used, phase, shard, sought, leaf, bit, word, full, at_, tries, item, stamp⟩) 44)).alloc (.cells #[.int .i64 0, .int .u32 0, .slice none 0 0, .int .i64 0, .int .u32 0, .bool false, .slice none 0 0, .slice none 0 0, .int .i64 0, .int .i64 0, .int .i64 0, .int .i64 0, .int .i64 0, .int .u64 0, .bool false, .slice none 0 0, .int .i64 0, .int .i64 0, .int .i64 0, .int .i64 0] 44) = w1 at L ⊢
  generalize w.heap.size + 1 = gR at L ⊢
  generalize w.heap.size = gO at L ⊢
  have O_8 := L.at_ 1 8 rfl (v := .int .i64 phase) rfl
  have O_13 := L.at_ 1 13 rfl (v := .int .u64 ((word : Nat) : Int)) rfl
  have O_z := L.lt 1 rfl
  have O_f8 := L.fz 1 8 rfl
  have O_f13 := L.fz 1 13 rfl
  go_upto_region 2 with fail
  clear O_8 O_13 O_z O_f8 O_f13
  replace L := (((L.set 1 8 rfl (.int .i64 8)).set 1 13 rfl (.int .u64 0)).is 1 (opv ⟨A0, n0, c0, A1, n1, c1, A2, n2, c2, A3, n3, c3⟩ ⟨kind, addr, err, aad, used, 8, shard, sought, leaf, bit, 0, full, at_, tries, item, stamp⟩) rfl)
  try dsimp only [nput] at L
  generalize ((w1).setCell ⟨gO, 8, none⟩ (.int .i64 8)).setCell ⟨gO, 13, none⟩ (.int .u64 0) = w2 at L ⊢
  have O_0 := L.at_ 1 0 rfl (v := .int .i64 kind) rfl
  have O_z := L.lt 1 rfl
  go_wp2_with (first | (refine wpList_load_row rfl 44 (.tmp 1) rfl gO rfl _ _ (0, 0) _ (L.bk_ 1 rfl) Try.underlying44 rfl op_sz ?_) | (refine wpList_store_row rfl 44 (.tmp 2) (.tmp 10) rfl gR _ rfl rfl _ _ (L.bk_ 0 rfl) op_sz rfl (opv_one _ _) ?_))
  clear O_0 O_z
  replace L := (L.row 0 rfl (opv ⟨A0, n0, c0, A1, n1, c1, A2, n2, c2, A3, n3, c3⟩ ⟨kind, addr, err, aad, used, 8, shard, sought, leaf, bit, 0, full, at_, tries, item, stamp⟩))
  try dsimp only [nput] at L
  generalize (w2).setRow gR (opv ⟨A0, n0, c0, A1, n1, c1, A2, n2, c2, A3, n3, c3⟩ ⟨kind, addr, err, aad, used, 8, shard, sought, leaf, bit, 0, full, at_, tries, item, stamp⟩) = w3 at L ⊢
  refine bodyPost_ret (v := .agg (opv ⟨A0, n0, c0, A1, n1, c1, A2, n2, c2, A3, n3, c3⟩ ⟨kind, addr, err, aad, used, 8, shard, sought, leaf, bit, 0, full, at_, tries, item, stamp⟩)) ?_ rfl ?_
  · exact results_cell_row (fn := Try.f90) Try.results90 _ _ gR _ _ (0, 0) _ rfl (L.bk_ 0 rfl) Try.underlying44 rfl op_sz
  exact ⟨rfl, L.K⟩
theorem again_any :
    Calls Try.prog 90 #[.agg (opv h s)] w (RetOp h (againS s) w) := by
  by_cases hk : s.kind = 1
  · exact again_grant hk
  · exact again_other hk
end
end Go.Proofs.Ytacgjaohfcoigaa

/-
  What claim.claim answers. Conditions: a block that may be, an operation whose leaf and bit there are.
-/
namespace Go.Proofs.Ytacgjaohfcoigaa
set_option maxRecDepth 100000
open Go.RowKit
set_option linter.unusedVariables false
section
variable {w : World} {lo lo2 a M m d lf bt : Nat} {p sh wo qu tr : Int} {A B : Option Addr} {n c : Nat} {xs : List Int} {ys : List Nat} {h : Hd} {s : Sc} {l : Ls}
set_option maxRecDepth 100000 in
set_option maxHeartbeats 2000000 in
theorem claim_not (ha : a < 4294967296) (hM : Much a p M) (hI : IS .u32 lo2 w h.A0 h.n0 h.c0 xs) (hn : h.n0 ≤ 65536) (hin : s.kind = 4 → InB a M h.n0 xs) (hlo : lo ≤ w.heap.size) (hL : Lists lo w h l) (h1 : h.n1 ≤ 65536) (h2 : h.n2 ≤ 65536) (h3 : h.n3 ≤ 65536) (hU : US w B m d ys) (hm : m ≤ 65536) (hlf : s.leaf = (lf : Int)) (hlm : lf < m) (hbt : s.bit = (bt : Int)) (hb : bt < 32) (hof : 32 * lf + bt < M) (hw : s.word < 18446744073709551616) (hne : gt ys lf ≠ s.word) :
    Calls Try.prog 82 #[.agg #[.int .u32 (a : Int), .int .i64 p, .slice A n c, .int .i64 sh, .int .i64 wo, .int .i64 qu, .int .i64 tr], .slice B m d, .agg (opv h s)] w (RetStp lo h.n0 (againS s) l m ys false B w) := by
  have hl5 : lf ≤ 65536 := by omega
  have TC := fun w => Lib.hid (claim_any s.word bt hw (by omega) w)
  have hyl : clm s.word bt < U64 := clm_lt _ _
  have TS : ∀ w, US w B m d ys → Hid (Calls Try.prog 79 #[.slice B m d, .int .i64 (lf : Nat), .int .u64 (s.word : Nat), .int .u64 (clm s.word bt : Nat)] w fun e w' => e = .returned (.tuple #[.slice B m d, .bool false]) ∧ Below w.heap.size w w') := fun w U => swap_same U hlm hne
  have TG := fun w => Lib.hid (again_any (w := w) (h := h) (s := s))
  generalize clm s.word bt = y at TC TS
  clear hne hyl hin hI hof
  rcases s with ⟨kind, addr, err, aad, used, phase, shard, sought, leaf, bit, word, full, at_, tries, item, stamp⟩
  rcases h with ⟨A0, n0, c0, A1, n1, c1, A2, n2, c2, A3, n3, c3⟩
  dsimp only at *
  subst hlf hbt
  go_enter Try.func82, Try.ntmps82
  go_upto_region 1 with (fail)
  have L := Loc.start w
  replace L := (((L).alloc #[.int .u32 (a : Int), .int .i64 p, .slice A n c, .int .i64 sh, .int .i64 wo, .int .i64 qu, .int .i64 tr] 27).alloc (opv ⟨A0, n0, c0, A1, n1, c1, A2, n2, c2, A3, n3, c3⟩ ⟨kind, addr, err, aad, used, phase, shard, sought, (lf : Int), (bt : Int), word, full, at_, tries, item, stamp⟩) 44).alloc #[.int .i64 0, .int .u32 0, .slice none 0 0, .int .i64 0, .int .u32 0, .bool false, .slice none 0 0, .slice none 0 0, .int .i64 0, .int .i64 0, .int .i64 0, .int .i64 0, .int .i64 0, .int .u64 0, .bool false, .slice none 0 0, .int .i64 0, .int .i64 0, .int .i64 0, .int .i64 0] 44
  try simp only [World.size_alloc] at L
  replace L := L.is 0 (opv hd0 sc0) rfl
  try dsimp only [nput] at L
  generalize (((w).alloc (.cells #[.int .u32 (a : Int), .int .i64 p, .slice A n c, .int .i64 sh, .int .i64 wo, .int .i64 qu, .int .i64 tr] 27)).alloc (.cells (opv ⟨A0, n0, c0, A1, n1, c1, A2, n2, c2, A3, n3, c3⟩ ⟨kind, addr, err, aad, used, phase, shard, sought, (lf : Int), (bt : Int), word, full, at_, tries, item, stamp⟩) 44)).alloc (.cells #[.int .i64 0, .int .u32 0, .slice none 0 0, .int .i64 0, .int .u32 0, .bool false, .slice none 0 0, .slice none 0 0, .int .i64 0, .int .i64 0, .int .i64 0, .int .i64 0, .int .i64 0, .int .u64 0, .bool false, .slice none 0 0, .int .i64 0, .int .i64 0, .int .i64 0, .int .i64 0] 44) = w1 at L ⊢
  generalize w.heap.size + 1 + 1 = gR at L ⊢
  generalize w.heap.size + 1 = gO at L ⊢
  generalize w.heap.size = gH at L ⊢
  have O_13 := L.at_ 1 13 rfl (v := .int .u64 ((word : Nat) : Int)) rfl
  have O_12 := L.at_ 1 12 rfl (v := .int .i64 (bt : Int)) rfl
  have O_z := L.lt 1 rfl
  go_wp2_with fail
  refine ((TC _).out).mono ?_
  rintro e w' ⟨rfl, rfl⟩
  clear O_13 O_12 O_z
  have O_11 := L.at_ 1 11 rfl (v := .int .i64 (lf : Int)) rfl
  have O_13 := L.at_ 1 13 rfl (v := .int .u64 ((word : Nat) : Int)) rfl
  have O_z := L.lt 1 rfl
  go_wp2_with fail
  refine ((TS _ (hU.below L.K)).out).mono ?_
  rintro e w2 ⟨rfl, K'⟩
  clear O_11 O_13 O_z
  replace L := L.over K'
  go_wp2_with (refine wpList_load_row rfl 44 (.tmp 5) rfl gO rfl _ _ (0, 0) _ (L.bk_ 1 rfl) Try.underlying44 rfl op_sz ?_)
  refine ((TG _).out).mono ?_
  rintro e w3 ⟨rfl, K'⟩
  replace L := L.over K'
  go_wp2_with (refine wpList_store_row rfl 44 (.tmp 7) (.tmp 30) rfl gR _ rfl rfl _ _ (L.bk_ 0 rfl) op_sz rfl (opv_one _ _) ?_)
  replace L := (L.row 0 rfl (opv ⟨A0, n0, c0, A1, n1, c1, A2, n2, c2, A3, n3, c3⟩ (againS ⟨kind, addr, err, aad, used, phase, shard, sought, (lf : Int), (bt : Int), word, full, at_, tries, item, stamp⟩)))
  try dsimp only [nput] at L
  generalize (w3).setRow gR (opv ⟨A0, n0, c0, A1, n1, c1, A2, n2, c2, A3, n3, c3⟩ (againS ⟨kind, addr, err, aad, used, phase, shard, sought, (lf : Int), (bt : Int), word, full, at_, tries, item, stamp⟩)) = w4 at L ⊢
  refine bodyPost_ret (v := .tuple #[.slice B m d, .agg (opv ⟨A0, n0, c0, A1, n1, c1, A2, n2, c2, A3, n3, c3⟩ (againS ⟨kind, addr, err, aad, used, phase, shard, sought, (lf : Int), (bt : Int), word, full, at_, tries, item, stamp⟩)), .bool false]) ?_ rfl ?_
  · exact results_tct (fn := Try.f82) Try.results82 _ _ gR _ _ (0, 0) _ rfl (L.bk_ 0 rfl) Try.underlying44 rfl op_sz
  exact ⟨_, _, _, _, _, _, _, _, _, _, _, _, _, rfl, hU.below L.K, hL.below L.K, fun k _ h => h, L.K⟩
set_option maxRecDepth 100000 in
set_option maxHeartbeats 2000000 in
theorem claim_full (ha : a < 4294967296) (hM : Much a p M) (hI : IS .u32 lo2 w h.A0 h.n0 h.c0 xs) (hn : h.n0 ≤ 65536) (hin : s.kind = 4 → InB a M h.n0 xs) (hlo : lo ≤ w.heap.size) (hL : Lists lo w h l) (h1 : h.n1 ≤ 65536) (h2 : h.n2 ≤ 65536) (h3 : h.n3 ≤ 65536) (hU : US w B m d ys) (hm : m ≤ 65536) (hlf : s.leaf = (lf : Int)) (hlm : lf < m) (hbt : s.bit = (bt : Int)) (hb : bt < 32) (hof : 32 * lf + bt < M) (hw : s.word < 18446744073709551616) (heq : gt ys lf = s.word) (hfl : fl (clm s.word bt) = true) :
    Calls Try.prog 82 #[.agg #[.int .u32 (a : Int), .int .i64 p, .slice A n c, .int .i64 sh, .int .i64 wo, .int .i64 qu, .int .i64 tr], .slice B m d, .agg (opv h s)] w (RetStp lo h.n0 (fullS (adS s (adr a lf bt))) l m (ys.set lf (clm s.word bt)) true B w) := by
  have hl5 : lf ≤ 65536 := by omega
  have TC := fun w => Lib.hid (claim_any s.word bt hw (by omega) w)
  have hyl : clm s.word bt < U64 := clm_lt _ _
  have TFu := fun w => Lib.hid (full_any (clm s.word bt) hyl w)
  simp only [hfl] at TFu
  clear hfl
  have TA := fun w => Lib.hid (address_any (w := w) (a := a) (p := p) (32 * lf + bt) (by have := hM.most; omega))
  have TO := fun w => Lib.hid (poff_any lf bt hl5 (by omega) w)
  have TS : ∀ w, US w B m d ys → Hid (Calls Try.prog 79 #[.slice B m d, .int .i64 (lf : Nat), .int .u64 (s.word : Nat), .int .u64 (clm s.word bt : Nat)] w (RetSN m (ys.set lf (clm s.word bt)) w)) := fun w U => by have := swap_new U hlm hm hyl; rw [heq] at this; exact this
  obtain ⟨z, hz⟩ : ∃ z, z = adr a lf bt := ⟨_, rfl⟩
  simp only [show (a + (32 * lf + bt)) % 4294967296 = z from hz.symm] at TA
  rw [← hz]
  clear hz heq
  clear hof
  generalize 32 * lf + bt = of at TO TA
  have hyl2 := hyl
  generalize clm s.word bt = y at TC TFu TS ⊢
  clear hin hI hyl
  rcases s with ⟨kind, addr, err, aad, used, phase, shard, sought, leaf, bit, word, full, at_, tries, item, stamp⟩
  rcases h with ⟨A0, n0, c0, A1, n1, c1, A2, n2, c2, A3, n3, c3⟩
  dsimp only at *
  subst hlf hbt
  go_enter Try.func82, Try.ntmps82
  go_upto_region 1 with (fail)
  have L := Loc.start w
  replace L := (((L).alloc #[.int .u32 (a : Int), .int .i64 p, .slice A n c, .int .i64 sh, .int .i64 wo, .int .i64 qu, .int .i64 tr] 27).alloc (opv ⟨A0, n0, c0, A1, n1, c1, A2, n2, c2, A3, n3, c3⟩ ⟨kind, addr, err, aad, used, phase, shard, sought, (lf : Int), (bt : Int), word, full, at_, tries, item, stamp⟩) 44).alloc #[.int .i64 0, .int .u32 0, .slice none 0 0, .int .i64 0, .int .u32 0, .bool false, .slice none 0 0, .slice none 0 0, .int .i64 0, .int .i64 0, .int .i64 0, .int .i64 0, .int .i64 0, .int .u64 0, .bool false, .slice none 0 0, .int .i64 0, .int .i64 0, .int .i64 0, .int .i64 0] 44
  try simp only [World.size_alloc] at L
  replace L := L.is 0 (opv hd0 sc0) rfl
  try dsimp only [nput] at L
  generalize (((w).alloc (.cells #[.int .u32 (a : Int), .int .i64 p, .slice A n c, .int .i64 sh, .int .i64 wo, .int .i64 qu, .int .i64 tr] 27)).alloc (.cells (opv ⟨A0, n0, c0, A1, n1, c1, A2, n2, c2, A3, n3, c3⟩ ⟨kind, addr, err, aad, used, phase, shard, sought, (lf : Int), (bt : Int), word, full, at_, tries, item, stamp⟩) 44)).alloc (.cells #[.int .i64 0, .int .u32 0, .slice none 0 0, .int .i64 0, .int .u32 0, .bool false, .slice none 0 0, .slice none 0 0, .int .i64 0, .int .i64 0, .int .i64 0, .int .i64 0, .int .i64 0, .int .u64 0, .bool false, .slice none 0 0, .int .i64 0, .int .i64 0, .int .i64 0, .int .i64 0] 44) = w1 at L ⊢
  generalize w.heap.size + 1 + 1 = gR at L ⊢
  generalize w.heap.size + 1 = gO at L ⊢
  generalize w.heap.size = gH at L ⊢
  have O_13 := L.at_ 1 13 rfl (v := .int .u64 ((word : Nat) : Int)) rfl
  have O_12 := L.at_ 1 12 rfl (v := .int .i64 (bt : Int)) rfl
  have O_z := L.lt 1 rfl
  go_wp2_with fail
  refine ((TC _).out).mono ?_
  rintro e w' ⟨rfl, rfl⟩
  clear O_13 O_12 O_z
  have O_11 := L.at_ 1 11 rfl (v := .int .i64 (lf : Int)) rfl
  have O_13 := L.at_ 1 13 rfl (v := .int .u64 ((word : Nat) : Int)) rfl
  have O_z := L.lt 1 rfl
  go_wp2_with fail
  have KS := L.K.size
  refine ((TS _ (hU.below L.K)).out).mono ?_
  rintro e w2 ⟨gS, dS, rfl, U, hgS, K'⟩
  clear O_11 O_13 O_z
  have Lb := L.lts
  replace L := L.over K'
  replace L := L.us_av (fun i b e b' o e' => by injection e' with e'; injection e' with e1; have := Lb i b e; omega) U
  clear Lb
  try dsimp only [lF, List.cons_append, List.nil_append] at L
  clear U
  replace hgS := Nat.le_trans KS hgS
  clear KS
  go_upto_region 5 with (fail)
  replace L := L.drew
  refine wp_region_held_drew (S := fun w' => ∃ v_O4 : Int, Loc w w' [(gR, 44, opv hd0 sc0), (gO, 44, opv ⟨A0, n0, c0, A1, n1, c1, A2, n2, c2, A3, n3, c3⟩ ⟨kind, addr, err, v_O4, used, phase, shard, sought, (lf : Int), (bt : Int), word, full, at_, tries, item, stamp⟩), (gH, 27, #[.int .u32 (a : Int), .int .i64 p, .slice A n c, .int .i64 sh, .int .i64 wo, .int .i64 qu, .int .i64 tr])] [uF (some ⟨gS, 0, none⟩) m dS (ys.set lf y)]) (by kernel_rfl) (⟨_, L⟩) (fun hHeld => ?_)
  generalize w2.drew = v3 at hHeld L ⊢
  refine wpAnyH_take (i := 0) (oi := ⟨some 31, _, _, _, _, _⟩) (v := .pointer (some ⟨gH, 0, none⟩)) rfl (by kernel_rfl) (by kernel_rfl) (by kernel_rfl) (fun _ _ _ h => h) (Or.inl ⟨by rfl, ?_⟩) hHeld ?_
  · intro ww hS
    try dsimp only at hS
    go_simp
    try with_reducible rfl
    try omega
  try simp only [Act.put, List.setIfInBounds_toArray, List.set_cons_zero, List.set_cons_succ]
  refine wpAnyH_take (i := 1) (oi := ⟨some 32, _, _, _, _, _⟩) (v := .agg #[.int .u32 (a : Int), .int .i64 p]) rfl (by kernel_rfl) (by kernel_rfl) (by kernel_rfl) (fun _ _ _ h => h) (Or.inl ⟨by rfl, ?_⟩) hHeld ?_
  · intro ww hS
    try dsimp only at hS
    have H_0 := (hS.choose_spec).at_ 2 0 rfl (v := .int .u32 (a : Int)) rfl
    have H_z := (hS.choose_spec).lt 2 rfl
    have H_1 := (hS.choose_spec).at_ 2 1 rfl (v := .int .i64 p) rfl
    have H_z := (hS.choose_spec).lt 2 rfl
    go_simp
    try with_reducible rfl
    try omega
  try simp only [Act.put, List.setIfInBounds_toArray, List.set_cons_zero, List.set_cons_succ]
  refine wpAnyH_take (i := 2) (oi := ⟨some 33, _, _, _, _, _⟩) (v := .pointer (some ⟨gO, 11, none⟩)) rfl (by kernel_rfl) (by kernel_rfl) (by kernel_rfl) (fun _ _ _ h => h) (Or.inl ⟨by rfl, ?_⟩) hHeld ?_
  · intro ww hS
    try dsimp only at hS
    go_simp
    try with_reducible rfl
    try omega
  try simp only [Act.put, List.setIfInBounds_toArray, List.set_cons_zero, List.set_cons_succ]
  refine wpAnyH_take (i := 3) (oi := ⟨some 34, _, _, _, _, _⟩) (v := .int .i64 (lf : Int)) rfl (by kernel_rfl) (by kernel_rfl) (by kernel_rfl) (fun _ _ _ h => h) (Or.inl ⟨by rfl, ?_⟩) hHeld ?_
  · intro ww hS
    try dsimp only at hS
    have O_11 := (hS.choose_spec).at_ 1 11 rfl (v := .int .i64 (lf : Int)) rfl
    have O_z := (hS.choose_spec).lt 1 rfl
    go_simp
    try with_reducible rfl
    try omega
  try simp only [Act.put, List.setIfInBounds_toArray, List.set_cons_zero, List.set_cons_succ]
  refine wpAnyH_take (i := 4) (oi := ⟨some 35, _, _, _, _, _⟩) (v := .pointer (some ⟨gO, 12, none⟩)) rfl (by kernel_rfl) (by kernel_rfl) (by kernel_rfl) (fun _ _ _ h => h) (Or.inl ⟨by rfl, ?_⟩) hHeld ?_
  · intro ww hS
    try dsimp only at hS
    go_simp
    try with_reducible rfl
    try omega
  try simp only [Act.put, List.setIfInBounds_toArray, List.set_cons_zero, List.set_cons_succ]
  refine wpAnyH_take (i := 5) (oi := ⟨some 36, _, _, _, _, _⟩) (v := .int .i64 (bt : Int)) rfl (by kernel_rfl) (by kernel_rfl) (by kernel_rfl) (fun _ _ _ h => h) (Or.inl ⟨by rfl, ?_⟩) hHeld ?_
  · intro ww hS
    try dsimp only at hS
    have O_12 := (hS.choose_spec).at_ 1 12 rfl (v := .int .i64 (bt : Int)) rfl
    have O_z := (hS.choose_spec).lt 1 rfl
    go_simp
    try with_reducible rfl
    try omega
  try simp only [Act.put, List.setIfInBounds_toArray, List.set_cons_zero, List.set_cons_succ]
  refine wpAnyH_ready (rs := [6]) (by kernel_rfl) (by simp) ?_
  refine AllReadyH.cons (o := ⟨some 37, _, _, _, _, _⟩) rfl (fun K0 hK => ?_) AllReadyH.nil
  go_simp
  refine ((TO _).out).mono ?_
  rintro e w' ⟨rfl, rfl⟩
  refine hK.out _ _ ⟨_, L⟩ (fun hHeld' => ?_)
  clear hHeld hK K0
  have hHeld := hHeld'
  clear hHeld'
  try simp only [Act.put, List.setIfInBounds_toArray, List.set_cons_zero, List.set_cons_succ]
  refine wpAnyH_ready (rs := [7]) (by kernel_rfl) (by simp) ?_
  refine AllReadyH.cons (o := ⟨some 38, _, _, _, _, _⟩) rfl (fun K0 hK => ?_) AllReadyH.nil
  go_simp
  refine ((TA _).out).mono ?_
  rintro e w4 ⟨rfl, K'⟩
  replace L := L.over K'
  refine hK.out _ _ ⟨_, L⟩ (fun hHeld' => ?_)
  clear hHeld hK K0
  have hHeld := hHeld'
  clear hHeld'
  clear K'
  try simp only [Act.put, List.setIfInBounds_toArray, List.set_cons_zero, List.set_cons_succ]
  refine wpAnyH_take (i := 8) (oi := ⟨some 39, _, _, _, _, _⟩) (v := .pointer (some ⟨gO, 3, none⟩)) rfl (by kernel_rfl) (by kernel_rfl) (by kernel_rfl) (fun _ _ _ h => h) (Or.inl ⟨by rfl, ?_⟩) hHeld ?_
  · intro ww hS
    try dsimp only at hS
    go_simp
    try with_reducible rfl
    try omega
  try simp only [Act.put, List.setIfInBounds_toArray, List.set_cons_zero, List.set_cons_succ]
  refine wpAnyH_take (i := 9) (oi := ⟨some 40, _, _, _, _, _⟩) (v := .pointer (some ⟨gO, 4, none⟩)) rfl (by kernel_rfl) (by kernel_rfl) (by kernel_rfl) (fun _ _ _ h => h) (Or.inl ⟨by rfl, ?_⟩) hHeld ?_
  · intro ww hS
    try dsimp only at hS
    go_simp
    try with_reducible rfl
    try omega
  try simp only [Act.put, List.setIfInBounds_toArray, List.set_cons_zero, List.set_cons_succ]
  refine wpAnyH_ready (rs := [10]) (by kernel_rfl) (by simp) ?_
  refine AllReadyH.cons (o := ⟨none, _, _, _, _, _⟩) rfl (fun K0 hK => ?_) AllReadyH.nil
  have S_d := L.at_ 1 4 rfl (v := .int .u32 aad) rfl
  have S_z := L.lt 1 rfl
  have S_f := L.fz 1 4 rfl
  go_simp
  clear S_d S_z S_f
  replace L := (L.set 1 4 rfl (.int .u32 (z : Int))).is 1 (opv ⟨A0, n0, c0, A1, n1, c1, A2, n2, c2, A3, n3, c3⟩ ⟨kind, addr, err, (z : Int), used, phase, shard, sought, (lf : Int), (bt : Int), word, full, at_, tries, item, stamp⟩) rfl
  try dsimp only [nput] at L
  refine hK.out _ _ ⟨_, L⟩ (fun hHeld' => ?_)
  clear hHeld hK K0
  have hHeld := hHeld'
  clear hHeld'
  generalize w4.setCell ⟨gO, 4, none⟩ (.int .u32 (z : Int)) = v5 at hHeld L ⊢
  try simp only [Act.put, List.setIfInBounds_toArray, List.set_cons_zero, List.set_cons_succ]
  refine wpAnyH_done (by kernel_rfl) ?_ _
  clear hHeld
  go_wp2_with fail
  refine ((TFu _).out).mono ?_
  rintro e w' ⟨rfl, rfl⟩
  have O_8 := L.at_ 1 8 rfl (v := .int .i64 phase) rfl
  have O_14 := L.at_ 1 14 rfl (v := .bool full) rfl
  have O_16 := L.at_ 1 16 rfl (v := .int .i64 at_) rfl
  have O_13 := L.at_ 1 13 rfl (v := .int .u64 ((word : Nat) : Int)) rfl
  have O_z := L.lt 1 rfl
  have O_f8 := L.fz 1 8 rfl
  have O_f14 := L.fz 1 14 rfl
  have O_f16 := L.fz 1 16 rfl
  have O_f13 := L.fz 1 13 rfl
  go_upto_region 9 with fail
  clear O_8 O_14 O_16 O_13 O_z O_f8 O_f14 O_f16 O_f13
  replace L := (((((L.set 1 8 rfl (.int .i64 4)).set 1 14 rfl (.bool true)).set 1 16 rfl (.int .i64 0)).set 1 13 rfl (.int .u64 0)).is 1 (opv ⟨A0, n0, c0, A1, n1, c1, A2, n2, c2, A3, n3, c3⟩ ⟨kind, addr, err, (z : Int), used, 4, shard, sought, (lf : Int), (bt : Int), 0, true, 0, tries, item, stamp⟩) rfl)
  try dsimp only [nput] at L
  generalize ((((v5).setCell ⟨gO, 8, none⟩ (.int .i64 4)).setCell ⟨gO, 14, none⟩ (.bool true)).setCell ⟨gO, 16, none⟩ (.int .i64 0)).setCell ⟨gO, 13, none⟩ (.int .u64 0) = w6 at L ⊢
  replace L := L.drew
  refine wp_region_held_drew (S := fun w' => ∃ v_R : Array Value, v_R.size = 20 ∧ Loc w w' [(gR, 44, v_R), (gO, 44, opv ⟨A0, n0, c0, A1, n1, c1, A2, n2, c2, A3, n3, c3⟩ ⟨kind, addr, err, (z : Int), used, 4, shard, sought, (lf : Int), (bt : Int), 0, true, 0, tries, item, stamp⟩), (gH, 27, #[.int .u32 (a : Int), .int .i64 p, .slice A n c, .int .i64 sh, .int .i64 wo, .int .i64 qu, .int .i64 tr])] [uF (some ⟨gS, 0, none⟩) m dS (ys.set lf y)]) (by kernel_rfl) (⟨_, rfl, L⟩) (fun hHeld => ?_)
  generalize w6.drew = v7 at hHeld L ⊢
  refine wpAnyH_take (i := 0) (oi := ⟨some 52, _, _, _, _, _⟩) (v := .slice (some ⟨gS, 0, none⟩) m dS) rfl (by kernel_rfl) (by kernel_rfl) (by kernel_rfl) (fun _ _ _ h => h) (Or.inl ⟨by rfl, ?_⟩) hHeld ?_
  · intro ww hS
    try dsimp only at hS
    go_simp
    try with_reducible rfl
    try omega
  try simp only [Act.put, List.setIfInBounds_toArray, List.set_cons_zero, List.set_cons_succ]
  refine wpAnyH_take (i := 1) (oi := ⟨some 53, _, _, _, _, _⟩) (v := .agg (opv ⟨A0, n0, c0, A1, n1, c1, A2, n2, c2, A3, n3, c3⟩ ⟨kind, addr, err, (z : Int), used, 4, shard, sought, (lf : Int), (bt : Int), 0, true, 0, tries, item, stamp⟩)) rfl (by kernel_rfl) (by kernel_rfl) (by kernel_rfl) (fun _ _ _ h => h) (yieldsIf_load_row (by rfl) 44 (.tmp 5) rfl gO rfl 44 _ (0, 0) _ (fun _ hS => (hS.choose_spec.2).bk_ 1 rfl) Try.underlying44 rfl op_sz) hHeld ?_
  try simp only [Act.put, List.setIfInBounds_toArray, List.set_cons_zero, List.set_cons_succ]
  refine wpAnyH_take (i := 2) (oi := ⟨some 6, _, _, _, _, _⟩) (v := .slice (some ⟨gS, 0, none⟩) m dS) rfl (by kernel_rfl) (by kernel_rfl) (by kernel_rfl) (fun _ _ _ h => h) (Or.inl ⟨by rfl, ?_⟩) hHeld ?_
  · intro ww hS
    try dsimp only at hS
    go_simp
    try with_reducible rfl
    try omega
  try simp only [Act.put, List.setIfInBounds_toArray, List.set_cons_zero, List.set_cons_succ]
  refine wpAnyH_ready (rs := [3]) (by kernel_rfl) (by simp) ?_
  refine AllReadyH.cons (o := ⟨none, _, _, _, _, _⟩) rfl (fun K0 hK => ?_) AllReadyH.nil
  rw [if_pos (by rfl)]
  refine wp_store_row 44 (.tmp 7) (.tmp 53) rfl gR _ rfl rfl _ _ (L.bk_ 0 rfl) op_sz rfl (opv_one _ _) ?_
  replace L := L.row 0 rfl (opv ⟨A0, n0, c0, A1, n1, c1, A2, n2, c2, A3, n3, c3⟩ ⟨kind, addr, err, (z : Int), used, 4, shard, sought, (lf : Int), (bt : Int), 0, true, 0, tries, item, stamp⟩)
  try dsimp only [nput] at L
  refine hK.out _ _ ⟨_, rfl, L⟩ (fun hHeld' => ?_)
  clear hHeld hK K0
  have hHeld := hHeld'
  clear hHeld'
  generalize v7.setRow gR (opv ⟨A0, n0, c0, A1, n1, c1, A2, n2, c2, A3, n3, c3⟩ ⟨kind, addr, err, (z : Int), used, 4, shard, sought, (lf : Int), (bt : Int), 0, true, 0, tries, item, stamp⟩) = v8 at hHeld L ⊢
  try simp only [Act.put]
  refine wpAnyH_take (i := 4) (oi := ⟨some 8, _, _, _, _, _⟩) (v := .bool true) rfl (by kernel_rfl) (by kernel_rfl) (by kernel_rfl) (fun _ _ _ h => h) (Or.inl ⟨by rfl, ?_⟩) hHeld ?_
  · intro ww hS
    try dsimp only at hS
    go_simp
    try with_reducible rfl
    try omega
  try simp only [Act.put, List.setIfInBounds_toArray, List.set_cons_zero, List.set_cons_succ]
  refine wpAnyH_done (by kernel_rfl) ?_ _
  clear hHeld
  go_wp2
  refine bodyPost_ret (v := .tuple #[.slice (some ⟨gS, 0, none⟩) m dS, .agg (opv ⟨A0, n0, c0, A1, n1, c1, A2, n2, c2, A3, n3, c3⟩ ⟨kind, addr, err, (z : Int), used, 4, shard, sought, (lf : Int), (bt : Int), 0, true, 0, tries, item, stamp⟩), .bool true]) ?_ rfl ?_
  · exact results_tct (fn := Try.f82) Try.results82 _ _ gR _ _ (0, 0) _ rfl (L.bk_ 0 rfl) Try.underlying44 rfl op_sz
  exact ⟨_, _, _, _, _, _, _, _, _, _, _, _, _, rfl, L.us_ 0 rfl, hL.below L.K, fun k hk _ b o e => by injection e with e; injection e with e1; omega, L.K⟩
set_option maxRecDepth 100000 in
set_option maxHeartbeats 2000000 in
theorem claim_go (ha : a < 4294967296) (hM : Much a p M) (hI : IS .u32 lo2 w h.A0 h.n0 h.c0 xs) (hn : h.n0 ≤ 65536) (hin : s.kind = 4 → InB a M h.n0 xs) (hlo : lo ≤ w.heap.size) (hL : Lists lo w h l) (h1 : h.n1 ≤ 65536) (h2 : h.n2 ≤ 65536) (h3 : h.n3 ≤ 65536) (hU : US w B m d ys) (hm : m ≤ 65536) (hlf : s.leaf = (lf : Int)) (hlm : lf < m) (hbt : s.bit = (bt : Int)) (hb : bt < 32) (hof : 32 * lf + bt < M) (hw : s.word < 18446744073709551616) (heq : gt ys lf = s.word) (hfl : fl (clm s.word bt) = false) :
    Calls Try.prog 82 #[.agg #[.int .u32 (a : Int), .int .i64 p, .slice A n c, .int .i64 sh, .int .i64 wo, .int .i64 qu, .int .i64 tr], .slice B m d, .agg (opv h s)] w (RetStp lo h.n0 (gon a h.n0 xs (adS s (adr a lf bt))) l m (ys.set lf (clm s.word bt)) true B w) := by
  have TG := fun w z (hI : IS .u32 lo2 w h.A0 h.n0 h.c0 xs) (hL : Lists lo w h l) => Lib.hid (goes_any (w := w) (sh := sh) (wo := wo) (qu := qu) (tr := tr) (A := A) (n := n) (c := c) (s := adS s z) ha hM hn hI hin hL h1 h2 h3)
  have hl5 : lf ≤ 65536 := by omega
  have TC := fun w => Lib.hid (claim_any s.word bt hw (by omega) w)
  have hyl : clm s.word bt < U64 := clm_lt _ _
  have TFu := fun w => Lib.hid (full_any (clm s.word bt) hyl w)
  simp only [hfl] at TFu
  clear hfl
  have TA := fun w => Lib.hid (address_any (w := w) (a := a) (p := p) (32 * lf + bt) (by have := hM.most; omega))
  have TO := fun w => Lib.hid (poff_any lf bt hl5 (by omega) w)
  have TS : ∀ w, US w B m d ys → Hid (Calls Try.prog 79 #[.slice B m d, .int .i64 (lf : Nat), .int .u64 (s.word : Nat), .int .u64 (clm s.word bt : Nat)] w (RetSN m (ys.set lf (clm s.word bt)) w)) := fun w U => by have := swap_new U hlm hm hyl; rw [heq] at this; exact this
  obtain ⟨z, hz⟩ : ∃ z, z = adr a lf bt := ⟨_, rfl⟩
  simp only [show (a + (32 * lf + bt)) % 4294967296 = z from hz.symm] at TA
  rw [← hz]
  clear hz heq
  clear hof
  generalize 32 * lf + bt = of at TO TA
  have hyl2 := hyl
  generalize clm s.word bt = y at TC TFu TS ⊢
  clear hin hyl
  rcases s with ⟨kind, addr, err, aad, used, phase, shard, sought, leaf, bit, word, full, at_, tries, item, stamp⟩
  rcases h with ⟨A0, n0, c0, A1, n1, c1, A2, n2, c2, A3, n3, c3⟩
  dsimp only at *
  subst hlf hbt
  go_enter Try.func82, Try.ntmps82
  go_upto_region 1 with (fail)
  have L := Loc.start w
  replace L := (((L).alloc #[.int .u32 (a : Int), .int .i64 p, .slice A n c, .int .i64 sh, .int .i64 wo, .int .i64 qu, .int .i64 tr] 27).alloc (opv ⟨A0, n0, c0, A1, n1, c1, A2, n2, c2, A3, n3, c3⟩ ⟨kind, addr, err, aad, used, phase, shard, sought, (lf : Int), (bt : Int), word, full, at_, tries, item, stamp⟩) 44).alloc #[.int .i64 0, .int .u32 0, .slice none 0 0, .int .i64 0, .int .u32 0, .bool false, .slice none 0 0, .slice none 0 0, .int .i64 0, .int .i64 0, .int .i64 0, .int .i64 0, .int .i64 0, .int .u64 0, .bool false, .slice none 0 0, .int .i64 0, .int .i64 0, .int .i64 0, .int .i64 0] 44
  try simp only [World.size_alloc] at L
  replace L := L.is 0 (opv hd0 sc0) rfl
  try dsimp only [nput] at L
  generalize (((w).alloc (.cells #[.int .u32 (a : Int), .int .i64 p, .slice A n c, .int .i64 sh, .int .i64 wo, .int .i64 qu, .int .i64 tr] 27)).alloc (.cells (opv ⟨A0, n0, c0, A1, n1, c1, A2, n2, c2, A3, n3, c3⟩ ⟨kind, addr, err, aad, used, phase, shard, sought, (lf : Int), (bt : Int), word, full, at_, tries, item, stamp⟩) 44)).alloc (.cells #[.int .i64 0, .int .u32 0, .slice none 0 0, .int .i64 0, .int .u32 0, .bool false, .slice none 0 0, .slice none 0 0, .int .i64 0, .int .i64 0, .int .i64 0, .int .i64 0, .int .i64 0, .int .u64 0, .bool false, .slice none 0 0, .int .i64 0, .int .i64 0, .int .i64 0, .int .i64 0] 44) = w1 at L ⊢
  generalize w.heap.size + 1 + 1 = gR at L ⊢
  generalize w.heap.size + 1 = gO at L ⊢
  generalize w.heap.size = gH at L ⊢
  have O_13 := L.at_ 1 13 rfl (v := .int .u64 ((word : Nat) : Int)) rfl
  have O_12 := L.at_ 1 12 rfl (v := .int .i64 (bt : Int)) rfl
  have O_z := L.lt 1 rfl
  go_wp2_with fail
  refine ((TC _).out).mono ?_
  rintro e w' ⟨rfl, rfl⟩
  clear O_13 O_12 O_z
  have O_11 := L.at_ 1 11 rfl (v := .int .i64 (lf : Int)) rfl
  have O_13 := L.at_ 1 13 rfl (v := .int .u64 ((word : Nat) : Int)) rfl
  have O_z := L.lt 1 rfl
  go_wp2_with fail
  have KS := L.K.size
  refine ((TS _ (hU.below L.K)).out).mono ?_
  rintro e w2 ⟨gS, dS, rfl, U, hgS, K'⟩
  clear O_11 O_13 O_z
  have Lb := L.lts
  replace L := L.over K'
  replace L := L.us_av (fun i b e b' o e' => by injection e' with e'; injection e' with e1; have := Lb i b e; omega) U
  clear Lb
  try dsimp only [lF, List.cons_append, List.nil_append] at L
  clear U
  replace hgS := Nat.le_trans KS hgS
  clear KS
  go_upto_region 5 with (fail)
  replace L := L.drew
  refine wp_region_held_drew (S := fun w' => ∃ v_O4 : Int, Loc w w' [(gR, 44, opv hd0 sc0), (gO, 44, opv ⟨A0, n0, c0, A1, n1, c1, A2, n2, c2, A3, n3, c3⟩ ⟨kind, addr, err, v_O4, used, phase, shard, sought, (lf : Int), (bt : Int), word, full, at_, tries, item, stamp⟩), (gH, 27, #[.int .u32 (a : Int), .int .i64 p, .slice A n c, .int .i64 sh, .int .i64 wo, .int .i64 qu, .int .i64 tr])] [uF (some ⟨gS, 0, none⟩) m dS (ys.set lf y)]) (by kernel_rfl) (⟨_, L⟩) (fun hHeld => ?_)
  generalize w2.drew = v3 at hHeld L ⊢
  refine wpAnyH_take (i := 0) (oi := ⟨some 31, _, _, _, _, _⟩) (v := .pointer (some ⟨gH, 0, none⟩)) rfl (by kernel_rfl) (by kernel_rfl) (by kernel_rfl) (fun _ _ _ h => h) (Or.inl ⟨by rfl, ?_⟩) hHeld ?_
  · intro ww hS
    try dsimp only at hS
    go_simp
    try with_reducible rfl
    try omega
  try simp only [Act.put, List.setIfInBounds_toArray, List.set_cons_zero, List.set_cons_succ]
  refine wpAnyH_take (i := 1) (oi := ⟨some 32, _, _, _, _, _⟩) (v := .agg #[.int .u32 (a : Int), .int .i64 p]) rfl (by kernel_rfl) (by kernel_rfl) (by kernel_rfl) (fun _ _ _ h => h) (Or.inl ⟨by rfl, ?_⟩) hHeld ?_
  · intro ww hS
    try dsimp only at hS
    have H_0 := (hS.choose_spec).at_ 2 0 rfl (v := .int .u32 (a : Int)) rfl
    have H_z := (hS.choose_spec).lt 2 rfl
    have H_1 := (hS.choose_spec).at_ 2 1 rfl (v := .int .i64 p) rfl
    have H_z := (hS.choose_spec).lt 2 rfl
    go_simp
    try with_reducible rfl
    try omega
  try simp only [Act.put, List.setIfInBounds_toArray, List.set_cons_zero, List.set_cons_succ]
  refine wpAnyH_take (i := 2) (oi := ⟨some 33, _, _, _, _, _⟩) (v := .pointer (some ⟨gO, 11, none⟩)) rfl (by kernel_rfl) (by kernel_rfl) (by kernel_rfl) (fun _ _ _ h => h) (Or.inl ⟨by rfl, ?_⟩) hHeld ?_
  · intro ww hS
    try dsimp only at hS
    go_simp
    try with_reducible rfl
    try omega
  try simp only [Act.put, List.setIfInBounds_toArray, List.set_cons_zero, List.set_cons_succ]
  refine wpAnyH_take (i := 3) (oi := ⟨some 34, _, _, _, _, _⟩) (v := .int .i64 (lf : Int)) rfl (by kernel_rfl) (by kernel_rfl) (by kernel_rfl) (fun _ _ _ h => h) (Or.inl ⟨by rfl, ?_⟩) hHeld ?_
  · intro ww hS
    try dsimp only at hS
    have O_11 := (hS.choose_spec).at_ 1 11 rfl (v := .int .i64 (lf : Int)) rfl
    have O_z := (hS.choose_spec).lt 1 rfl
    go_simp
    try with_reducible rfl
    try omega
  try simp only [Act.put, List.setIfInBounds_toArray, List.set_cons_zero, List.set_cons_succ]
  refine wpAnyH_take (i := 4) (oi := ⟨some 35, _, _, _, _, _⟩) (v := .pointer (some ⟨gO, 12, none⟩)) rfl (by kernel_rfl) (by kernel_rfl) (by kernel_rfl) (fun _ _ _ h => h) (Or.inl ⟨by rfl, ?_⟩) hHeld ?_
  · intro ww hS
    try dsimp only at hS
    go_simp
    try with_reducible rfl
    try omega
  try simp only [Act.put, List.setIfInBounds_toArray, List.set_cons_zero, List.set_cons_succ]
  refine wpAnyH_take (i := 5) (oi := ⟨some 36, _, _, _, _, _⟩) (v := .int .i64 (bt : Int)) rfl (by kernel_rfl) (by kernel_rfl) (by kernel_rfl) (fun _ _ _ h => h) (Or.inl ⟨by rfl, ?_⟩) hHeld ?_
  · intro ww hS
    try dsimp only at hS
    have O_12 := (hS.choose_spec).at_ 1 12 rfl (v := .int .i64 (bt : Int)) rfl
    have O_z := (hS.choose_spec).lt 1 rfl
    go_simp
    try with_reducible rfl
    try omega
  try simp only [Act.put, List.setIfInBounds_toArray, List.set_cons_zero, List.set_cons_succ]
  refine wpAnyH_ready (rs := [6]) (by kernel_rfl) (by simp) ?_
  refine AllReadyH.cons (o := ⟨some 37, _, _, _, _, _⟩) rfl (fun K0 hK => ?_) AllReadyH.nil
  go_simp
  refine ((TO _).out).mono ?_
  rintro e w' ⟨rfl, rfl⟩
  refine hK.out _ _ ⟨_, L⟩ (fun hHeld' => ?_)
  clear hHeld hK K0
  have hHeld := hHeld'
  clear hHeld'
  try simp only [Act.put, List.setIfInBounds_toArray, List.set_cons_zero, List.set_cons_succ]
  refine wpAnyH_ready (rs := [7]) (by kernel_rfl) (by simp) ?_
  refine AllReadyH.cons (o := ⟨some 38, _, _, _, _, _⟩) rfl (fun K0 hK => ?_) AllReadyH.nil
  go_simp
  refine ((TA _).out).mono ?_
  rintro e w4 ⟨rfl, K'⟩
  replace L := L.over K'
  refine hK.out _ _ ⟨_, L⟩ (fun hHeld' => ?_)
  clear hHeld hK K0
  have hHeld := hHeld'
  clear hHeld'
  clear K'
  try simp only [Act.put, List.setIfInBounds_toArray, List.set_cons_zero, List.set_cons_succ]
  refine wpAnyH_take (i := 8) (oi := ⟨some 39, _, _, _, _, _⟩) (v := .pointer (some ⟨gO, 3, none⟩)) rfl (by kernel_rfl) (by kernel_rfl) (by kernel_rfl) (fun _ _ _ h => h) (Or.inl ⟨by rfl, ?_⟩) hHeld ?_
  · intro ww hS
    try dsimp only at hS
    go_simp
    try with_reducible rfl
    try omega
  try simp only [Act.put, List.setIfInBounds_toArray, List.set_cons_zero, List.set_cons_succ]
  refine wpAnyH_take (i := 9) (oi := ⟨some 40, _, _, _, _, _⟩) (v := .pointer (some ⟨gO, 4, none⟩)) rfl (by kernel_rfl) (by kernel_rfl) (by kernel_rfl) (fun _ _ _ h => h) (Or.inl ⟨by rfl, ?_⟩) hHeld ?_
  · intro ww hS
    try dsimp only at hS
    go_simp
    try with_reducible rfl
    try omega
  try simp only [Act.put, List.setIfInBounds_toArray, List.set_cons_zero, List.set_cons_succ]
  refine wpAnyH_ready (rs := [10]) (by kernel_rfl) (by simp) ?_
  refine AllReadyH.cons (o := ⟨none, _, _, _, _, _⟩) rfl (fun K0 hK => ?_) AllReadyH.nil
  have S_d := L.at_ 1 4 rfl (v := .int .u32 aad) rfl
  have S_z := L.lt 1 rfl
  have S_f := L.fz 1 4 rfl
  go_simp
  clear S_d S_z S_f
  replace L := (L.set 1 4 rfl (.int .u32 (z : Int))).is 1 (opv ⟨A0, n0, c0, A1, n1, c1, A2, n2, c2, A3, n3, c3⟩ ⟨kind, addr, err, (z : Int), used, phase, shard, sought, (lf : Int), (bt : Int), word, full, at_, tries, item, stamp⟩) rfl
  try dsimp only [nput] at L
  refine hK.out _ _ ⟨_, L⟩ (fun hHeld' => ?_)
  clear hHeld hK K0
  have hHeld := hHeld'
  clear hHeld'
  generalize w4.setCell ⟨gO, 4, none⟩ (.int .u32 (z : Int)) = v5 at hHeld L ⊢
  try simp only [Act.put, List.setIfInBounds_toArray, List.set_cons_zero, List.set_cons_succ]
  refine wpAnyH_done (by kernel_rfl) ?_ _
  clear hHeld
  go_wp2_with fail
  refine ((TFu _).out).mono ?_
  rintro e w' ⟨rfl, rfl⟩
  go_wp2_with (first | (refine wpList_load_row rfl 27 (.tmp 3) rfl gH rfl _ _ (0, 0) _ (L.bk_ 2 rfl) Try.underlying27 rfl cf_sz ?_) | (refine wpList_load_row rfl 44 (.tmp 5) rfl gO rfl _ _ (0, 0) _ (L.bk_ 1 rfl) Try.underlying44 rfl op_sz ?_))
  have KS := L.K.size
  refine ((TG _ z (hI.below L.K) (hL.below L.K)).out).mono ?_
  rintro e w6 ⟨A0', c0', A1', c1', A2', c2', A3', c3', rfl, L', K'⟩
  have Lb := L.lts
  replace L := L.over K'
  replace L := L.lists Lb L'
  clear Lb
  try dsimp only [lF, List.cons_append, List.nil_append] at L
  clear L'
  go_wp2_with (refine wpList_store_row rfl 44 (.tmp 7) (.tmp 47) rfl gR _ rfl rfl _ _ (L.bk_ 0 rfl) op_sz rfl (opv_one _ _) ?_)
  replace L := (L.row 0 rfl (opv ⟨A0', n0, c0', A1', n1, c1', A2', n2, c2', A3', n3, c3'⟩ (gon a n0 xs (adS ⟨kind, addr, err, aad, used, phase, shard, sought, (lf : Int), (bt : Int), word, full, at_, tries, item, stamp⟩ z))))
  try dsimp only [nput] at L
  generalize (w6).setRow gR (opv ⟨A0', n0, c0', A1', n1, c1', A2', n2, c2', A3', n3, c3'⟩ (gon a n0 xs (adS ⟨kind, addr, err, aad, used, phase, shard, sought, (lf : Int), (bt : Int), word, full, at_, tries, item, stamp⟩ z))) = w7 at L ⊢
  refine bodyPost_ret (v := .tuple #[.slice (some ⟨gS, 0, none⟩) m dS, .agg (opv ⟨A0', n0, c0', A1', n1, c1', A2', n2, c2', A3', n3, c3'⟩ (gon a n0 xs (adS ⟨kind, addr, err, aad, used, phase, shard, sought, (lf : Int), (bt : Int), word, full, at_, tries, item, stamp⟩ z))), .bool true]) ?_ rfl ?_
  · exact results_tct (fn := Try.f82) Try.results82 _ _ gR _ _ (0, 0) _ rfl (L.bk_ 0 rfl) Try.underlying44 rfl op_sz
  exact ⟨_, _, _, _, _, _, _, _, _, _, _, _, _, rfl, L.us_ 4 rfl, (L.lists_at 0 rfl).lower_ (Nat.le_trans hlo KS), fun k hk _ b o e => by injection e with e; injection e with e1; omega, L.K⟩
theorem claim_stp (ha : a < 4294967296) (hM : Much a p M) (hI : IS .u32 lo2 w h.A0 h.n0 h.c0 xs) (hn : h.n0 ≤ 65536) (hin : s.kind = 4 → InB a M h.n0 xs) (hlo : lo ≤ w.heap.size) (hL : Lists lo w h l) (h1 : h.n1 ≤ 65536) (h2 : h.n2 ≤ 65536) (h3 : h.n3 ≤ 65536) (hU : US w B m d ys) (hm : m ≤ 65536) (hlf : s.leaf = (lf : Int)) (hlm : lf < m) (hbt : s.bit = (bt : Int)) (hb : bt < 32) (hof : 32 * lf + bt < M) (hw : s.word < 18446744073709551616) :
    Calls Try.prog 82 #[.agg #[.int .u32 (a : Int), .int .i64 p, .slice A n c, .int .i64 sh, .int .i64 wo, .int .i64 qu, .int .i64 tr], .slice B m d, .agg (opv h s)] w (RetStp lo h.n0 (claimS a h.n0 xs (gt ys lf) s) l m (claimC ys s) (decide (gt ys lf = s.word)) B w) := by
  unfold claimS claimC
  rw [hlf, hbt, Int.toNat_natCast, Int.toNat_natCast]
  by_cases heq : gt ys lf = s.word
  · rw [if_pos heq, if_pos heq, decide_eq_true heq]
    cases hfl : fl (clm s.word bt) with
    | true => rw [if_pos rfl]; exact claim_full ha hM hI hn hin hlo hL h1 h2 h3 hU hm hlf hlm hbt hb hof hw heq hfl
    | false => rw [if_neg Bool.false_ne_true]; exact claim_go ha hM hI hn hin hlo hL h1 h2 h3 hU hm hlf hlm hbt hb hof hw heq hfl
  · rw [if_neg heq, if_neg heq, decide_eq_false heq]
    exact claim_not ha hM hI hn hin hlo hL h1 h2 h3 hU hm hlf hlm hbt hb hof hw heq
end
end Go.Proofs.Ytacgjaohfcoigaa

/-
  What claim.Step answers of an operation that looks, or claims. Conditions: a block that may be, an operation whose leaf and bit there are.
-/
namespace Go.Proofs.Ytacgjaohfcoigaa
set_option maxRecDepth 100000
open Go.RowKit
set_option linter.unusedVariables false
theorem cph_z (w : World) : (zeroValue 96).run Try.prog w = .ok .nilFunc w := by kernel_rfl
abbrev cph_l : List (Int × Nat) := [(3, 82), (2, 81)]
theorem cph_any (w : World) :
    Calls Try.prog 75 #[] w fun e w' => ∃ gm, e = .returned (.map (some gm)) ∧ FMap w' gm cph_l ∧ w.heap.size ≤ gm ∧ Below w.heap.size w w' := by
  have hmm := @run_makeMap Try.prog
  have O0 : FMap (w.alloc (.map #[] 0)) w.heap.size [] := World.ownsMap_made w Try.prog 3 fnElem
  have K0 := below_alloc w (.map #[] 0)
  go_enter Try.func75, Try.ntmps75
  obtain ⟨w1, H1, O1, G1⟩ := O0.put Try.underlying98 (by decide) 2 81 (by decide)
  obtain ⟨w2, H2, O2, G2⟩ := O1.put Try.underlying98 (by decide) 3 82 (by decide)
  go_wp2
  have K1 := K0.grown G1 (Nat.le_trans (Nat.le_refl _) K0.size) (by intro j hj; injection hj with hj; omega)
  have K2 := K1.grown G2 (Nat.le_trans (Nat.le_refl _) K1.size) (by intro j hj; injection hj with hj; omega)
  go_ret
  exact ⟨_, rfl, O2, Nat.le_refl _, K2⟩
section
variable {w : World} {lo lo2 a M m d lf bt : Nat} {p sh wo qu tr : Int} {A B : Option Addr} {n c : Nat} {xs : List Int} {ys : List Nat} {h : Hd} {s : Sc} {l : Ls}
set_option maxRecDepth 100000 in
set_option maxHeartbeats 2000000 in
theorem cstep_claim (ha : a < 4294967296) (hM : Much a p M) (hI : IS .u32 lo2 w h.A0 h.n0 h.c0 xs) (hn : h.n0 ≤ 65536) (hin : s.kind = 4 → InB a M h.n0 xs) (hL : Lists lo w h l) (h1 : h.n1 ≤ 65536) (h2 : h.n2 ≤ 65536) (h3 : h.n3 ≤ 65536) (hU : US w B m d ys) (hm : m ≤ 65536) (hlf : s.leaf = (lf : Int)) (hlm : lf < m) (hbt : s.bit = (bt : Int)) (hb : bt < 32) (hof : 32 * lf + bt < M) (hw : s.word < 18446744073709551616) (hph : s.phase = 3) :
    Calls Try.prog 71 #[.agg #[.int .u32 (a : Int), .int .i64 p, .slice A n c, .int .i64 sh, .int .i64 wo, .int .i64 qu, .int .i64 tr], .slice B m d, .agg (opv h s)] w (RetStp w.heap.size h.n0 (claimS a h.n0 xs (gt ys lf) s) l m (claimC ys s) (decide (gt ys lf = s.word)) B w) := by
  have TOwn := fun w (L : Lists lo w h l) => Lib.hid (own_any (s := s) L hn h1 h2 h3)
  have hm0 : 0 < m := by omega
  have hrq := Lib.hid (hL.i0.uniq hI)
  have TK := fun w lo lo2 A0 c0 A1 c1 A2 c2 A3 c3 (l : Ls) (hI : IS .u32 lo2 w A0 h.n0 c0 xs) (hlo : lo ≤ w.heap.size) (hL : Lists lo w ⟨A0, h.n0, c0, A1, h.n1, c1, A2, h.n2, c2, A3, h.n3, c3⟩ l) (hU : US w B m d ys) => Lib.hid (claim_stp (w := w) (a := a) (p := p) (sh := sh) (wo := wo) (qu := qu) (tr := tr) (A := A) (n := n) (c := c) (s := s) (h := ⟨A0, h.n0, c0, A1, h.n1, c1, A2, h.n2, c2, A3, h.n3, c3⟩) ha hM hI hn hin hlo hL h1 h2 h3 hU hm hlf hlm hbt hb hof hw)
  clear hlf hbt hin hof hb hw
  rcases s with ⟨kind, addr, err, aad, used, phase, shard, sought, leaf, bit, word, full, at_, tries, item, stamp⟩
  rcases h with ⟨A0, n0, c0, A1, n1, c1, A2, n2, c2, A3, n3, c3⟩
  dsimp only at *
  subst hph
  go_enter Try.func71, Try.ntmps71
  go_upto_region 1 with (fail)
  have L := Loc.start w
  replace L := (((L).alloc #[.int .u32 (a : Int), .int .i64 p, .slice A n c, .int .i64 sh, .int .i64 wo, .int .i64 qu, .int .i64 tr] 27).alloc (opv ⟨A0, n0, c0, A1, n1, c1, A2, n2, c2, A3, n3, c3⟩ ⟨kind, addr, err, aad, used, 3, shard, sought, leaf, bit, word, full, at_, tries, item, stamp⟩) 44).alloc #[.int .i64 0, .int .u32 0, .slice none 0 0, .int .i64 0, .int .u32 0, .bool false, .slice none 0 0, .slice none 0 0, .int .i64 0, .int .i64 0, .int .i64 0, .int .i64 0, .int .i64 0, .int .u64 0, .bool false, .slice none 0 0, .int .i64 0, .int .i64 0, .int .i64 0, .int .i64 0] 44
  try simp only [World.size_alloc] at L
  replace L := L.is 0 (opv hd0 sc0) rfl
  try dsimp only [nput] at L
  generalize (((w).alloc (.cells #[.int .u32 (a : Int), .int .i64 p, .slice A n c, .int .i64 sh, .int .i64 wo, .int .i64 qu, .int .i64 tr] 27)).alloc (.cells (opv ⟨A0, n0, c0, A1, n1, c1, A2, n2, c2, A3, n3, c3⟩ ⟨kind, addr, err, aad, used, 3, shard, sought, leaf, bit, word, full, at_, tries, item, stamp⟩) 44)).alloc (.cells #[.int .i64 0, .int .u32 0, .slice none 0 0, .int .i64 0, .int .u32 0, .bool false, .slice none 0 0, .slice none 0 0, .int .i64 0, .int .i64 0, .int .i64 0, .int .i64 0, .int .i64 0, .int .u64 0, .bool false, .slice none 0 0, .int .i64 0, .int .i64 0, .int .i64 0, .int .i64 0] 44) = w1 at L ⊢
  generalize w.heap.size + 1 + 1 = gR at L ⊢
  generalize w.heap.size + 1 = gO at L ⊢
  generalize w.heap.size = gH at L ⊢
  go_wp2_with (refine wpList_load_row rfl 44 (.tmp 5) rfl gO rfl _ _ (0, 0) _ (L.bk_ 1 rfl) Try.underlying44 rfl op_sz ?_)
  have KS := L.K.size
  have LbO := L.gs
  refine ((TOwn _ (hL.below L.K)).out).mono ?_
  rintro e w2 ⟨A0', c0', A1', c1', A2', c2', A3', c3', rfl, L', K'⟩
  have Lb := L.lts
  replace L := L.over K'
  replace L := L.lists Lb L'
  replace L := L.sz K'.size
  clear Lb
  try dsimp only [lF, List.cons_append, List.nil_append] at L
  clear L'
  go_upto_region 2 with (refine wpList_store_row rfl 44 (.tmp 5) (.tmp 12) rfl gO _ rfl rfl _ _ (L.bk_ 1 rfl) op_sz rfl (opv_one _ _) ?_)
  replace L := (L.row 1 rfl (opv ⟨A0', n0, c0', A1', n1, c1', A2', n2, c2', A3', n3, c3'⟩ ⟨kind, addr, err, aad, used, 3, shard, sought, leaf, bit, word, full, at_, tries, item, stamp⟩))
  try dsimp only [nput] at L
  generalize (w2).setRow gO (opv ⟨A0', n0, c0', A1', n1, c1', A2', n2, c2', A3', n3, c3'⟩ ⟨kind, addr, err, aad, used, 3, shard, sought, leaf, bit, word, full, at_, tries, item, stamp⟩) = w3 at L ⊢
  replace L := L.drew
  refine wp_region_held_drew (S := fun w' => Loc w w' [(gR, 44, opv hd0 sc0), (gO, 44, opv ⟨A0', n0, c0', A1', n1, c1', A2', n2, c2', A3', n3, c3'⟩ ⟨kind, addr, err, aad, used, 3, shard, sought, leaf, bit, word, full, at_, tries, item, stamp⟩), (gH, 27, #[.int .u32 (a : Int), .int .i64 p, .slice A n c, .int .i64 sh, .int .i64 wo, .int .i64 qu, .int .i64 tr])] [zF w1.heap.size, iF .u32 w1.heap.size A0' n0 c0' l.rqs, iF .u32 w1.heap.size A1' n1 c1' l.ads, iF .i64 w1.heap.size A2' n2 c2' l.ers, iF .u64 w1.heap.size A3' n3 c3' l.ses]) (by kernel_rfl) L (fun hHeld => ?_)
  generalize w3.drew = v4 at hHeld L ⊢
  refine wpAnyH_take (i := 1) (oi := ⟨some 15, _, _, _, _, _⟩) (v := .pointer (some ⟨gO, 8, none⟩)) rfl (by kernel_rfl) (by kernel_rfl) (by kernel_rfl) (fun _ _ _ h => h) (Or.inl ⟨by rfl, ?_⟩) hHeld ?_
  · intro ww hS
    try dsimp only at hS
    go_simp
    try with_reducible rfl
    try omega
  try simp only [Act.put, List.setIfInBounds_toArray, List.set_cons_zero, List.set_cons_succ]
  refine wpAnyH_take (i := 2) (oi := ⟨some 16, _, _, _, _, _⟩) (v := .int .i64 3) rfl (by kernel_rfl) (by kernel_rfl) (by kernel_rfl) (fun _ _ _ h => h) (Or.inl ⟨by rfl, ?_⟩) hHeld ?_
  · intro ww hS
    try dsimp only at hS
    have O_8 := (hS).at_ 1 8 rfl (v := .int .i64 3) rfl
    have O_z := (hS).lt 1 rfl
    go_simp
    try with_reducible rfl
    try omega
  try simp only [Act.put, List.setIfInBounds_toArray, List.set_cons_zero, List.set_cons_succ]
  refine wpAnyH_ready (rs := [0]) (by kernel_rfl) (by simp) ?_
  refine AllReadyH.cons (o := ⟨some 14, _, _, _, _, _⟩) rfl (fun K0 hK => ?_) AllReadyH.nil
  go_simp
  refine (cph_any _).mono ?_
  rintro e w5 ⟨gm, rfl, hF, hgm, K'⟩
  have Lb := L.lts
  replace L := L.over K'
  replace L := L.map_new Lb hgm hF
  clear Lb
  try dsimp only [lF, List.cons_append, List.nil_append] at L
  clear hF hgm
  refine hK.out _ _ (L.less 1) (fun hHeld' => ?_)
  clear hHeld hK K0
  have hHeld := hHeld'
  clear hHeld'
  clear K'
  try simp only [Act.put, List.setIfInBounds_toArray, List.set_cons_zero, List.set_cons_succ]
  refine wpAnyH_ready (rs := [3]) (by kernel_rfl) (by simp) ?_
  refine AllReadyH.cons (o := ⟨some 17, _, _, _, _, _⟩) rfl (fun K0 hK => ?_) AllReadyH.nil
  have hrun := FMap.look (L.get 0 rfl : FMap _ gm cph_l) Try.underlying98 (cph_z _) (k := 3) (by decide) (f := 82) rfl
  go_simp
  refine hK.out _ _ hHeld (fun hHeld' => ?_)
  clear hHeld hK K0
  have hHeld := hHeld'
  clear hHeld'
  try simp only [Act.put, List.setIfInBounds_toArray, List.set_cons_zero, List.set_cons_succ]
  clear hrun
  refine wpAnyH_take (i := 4) (oi := ⟨some 13, _, _, _, _, _⟩) (v := ?_) rfl (by kernel_rfl) (by kernel_rfl) (by kernel_rfl) (fun _ _ _ h => h) (Or.inl ⟨by rfl, ?_⟩) hHeld ?_
  rotate_left
  · intro ww hS
    try dsimp only at hS
    go_simp
    try with_reducible rfl
    try omega
  try simp only [Act.put, List.setIfInBounds_toArray, List.set_cons_zero, List.set_cons_succ]
  refine wpAnyH_take (i := 5) (oi := ⟨some 18, _, _, _, _, _⟩) (v := .func (.func 82) #[] #[]) rfl (by kernel_rfl) (by kernel_rfl) (by kernel_rfl) (fun _ _ _ h => h) (Or.inl ⟨by rfl, ?_⟩) hHeld ?_
  · intro ww hS
    try dsimp only at hS
    go_simp
    try with_reducible rfl
    try omega
  try simp only [Act.put, List.setIfInBounds_toArray, List.set_cons_zero, List.set_cons_succ]
  refine wpAnyH_take (i := 6) (oi := ⟨some 19, _, _, _, _, _⟩) (v := .bool true) rfl (by kernel_rfl) (by kernel_rfl) (by kernel_rfl) (fun _ _ _ h => h) (Or.inl ⟨by rfl, ?_⟩) hHeld ?_
  · intro ww hS
    try dsimp only at hS
    go_simp
    try with_reducible rfl
    try omega
  try simp only [Act.put, List.setIfInBounds_toArray, List.set_cons_zero, List.set_cons_succ]
  refine wpAnyH_take (i := 7) (oi := ⟨some 9, _, _, _, _, _⟩) (v := .func (.func 82) #[] #[]) rfl (by kernel_rfl) (by kernel_rfl) (by kernel_rfl) (fun _ _ _ h => h) (Or.inl ⟨by rfl, ?_⟩) hHeld ?_
  · intro ww hS
    try dsimp only at hS
    go_simp
    try with_reducible rfl
    try omega
  try simp only [Act.put, List.setIfInBounds_toArray, List.set_cons_zero, List.set_cons_succ]
  refine wpAnyH_take (i := 8) (oi := ⟨some 10, _, _, _, _, _⟩) (v := .bool true) rfl (by kernel_rfl) (by kernel_rfl) (by kernel_rfl) (fun _ _ _ h => h) (Or.inl ⟨by rfl, ?_⟩) hHeld ?_
  · intro ww hS
    try dsimp only at hS
    go_simp
    try with_reducible rfl
    try omega
  try simp only [Act.put, List.setIfInBounds_toArray, List.set_cons_zero, List.set_cons_succ]
  refine wpAnyH_done (by kernel_rfl) ?_ _
  clear hHeld
  go_wp2_with (first | (refine wpList_load_row rfl 27 (.tmp 3) rfl gH rfl _ _ (0, 0) _ (L.bk_ 2 rfl) Try.underlying27 rfl cf_sz ?_) | (refine wpList_load_row rfl 44 (.tmp 5) rfl gO rfl _ _ (0, 0) _ (L.bk_ 1 rfl) Try.underlying44 rfl op_sz ?_))
  have KS2 := L.K.size
  refine ((TK _ _ _ _ _ _ _ _ _ _ _ _ ((L.lists_at 2 rfl).asked hrq.out) (L.sz_ 1 rfl) (L.lists_at 2 rfl) (hU.below L.K)).out).mono ?_
  rintro e w6 ⟨A0'', c0'', A1'', n1'', c1'', A2'', n2'', c2'', A3'', n3'', c3'', B'', d'', rfl, U, L', hA, K'⟩
  have Lb := L.lts
  replace L := L.over K'
  replace L := L.us_av (fun i b e => hA b.1 (Lb i b e) (hU.apart0 hm0 L i b e)) U
  replace L := L.lists' LbO L'
  clear Lb
  try dsimp only [lF, List.cons_append, List.nil_append] at L
  clear L' U
  go_wp2_with (refine wpList_store_row rfl 44 (.tmp 7) (.tmp 30) rfl gR _ rfl rfl _ _ (L.bk_ 0 rfl) op_sz rfl (opv_one _ _) ?_)
  replace L := (L.row 0 rfl (opv ⟨A0'', n0, c0'', A1'', n1'', c1'', A2'', n2'', c2'', A3'', n3'', c3''⟩ (claimS a n0 xs (gt ys lf) ⟨kind, addr, err, aad, used, 3, shard, sought, leaf, bit, word, full, at_, tries, item, stamp⟩)))
  try dsimp only [nput] at L
  generalize (w6).setRow gR (opv ⟨A0'', n0, c0'', A1'', n1'', c1'', A2'', n2'', c2'', A3'', n3'', c3''⟩ (claimS a n0 xs (gt ys lf) ⟨kind, addr, err, aad, used, 3, shard, sought, leaf, bit, word, full, at_, tries, item, stamp⟩)) = w7 at L ⊢
  refine bodyPost_ret (v := .tuple #[.slice B'' m d'', .agg (opv ⟨A0'', n0, c0'', A1'', n1'', c1'', A2'', n2'', c2'', A3'', n3'', c3''⟩ (claimS a n0 xs (gt ys lf) ⟨kind, addr, err, aad, used, 3, shard, sought, leaf, bit, word, full, at_, tries, item, stamp⟩)), .bool (decide (gt ys lf = word))]) ?_ rfl ?_
  · exact results_tct (fn := Try.f71) Try.results71 _ _ gR _ _ (0, 0) _ rfl (L.bk_ 0 rfl) Try.underlying44 rfl op_sz
  exact ⟨_, _, _, _, _, _, _, _, _, _, _, _, _, rfl, L.us_ 4 rfl, (L.lists_at 0 rfl).lower_ KS, fun k hk => hA k (Nat.lt_of_lt_of_le hk KS2), L.K⟩
end
end Go.Proofs.Ytacgjaohfcoigaa

/-
  What New of package word, and the document's, answer of a configuration that may be: the leaf's first word; nothing that was there is otherwise.
-/
namespace Go.Proofs.Ytacgjaohfcoigaa
set_option maxRecDepth 100000
open Go.RowKit
section
variable {w : World} {lo a M l : Nat} {p sh wo qu tr : Int} {A : Option Addr} {n c : Nat} {xs : List Int}
theorem wnew_any (ha : a < 4294967296) (hM : Much a p M) (h : IS .i64 lo w A n c xs) (hn : n ≤ 65536) (hr : risB M 0 xs = true) (hl : 32 * l < M) :
    Calls Try.prog 24 #[.agg #[.int .u32 a, .int .i64 p, .slice A n c, .int .i64 sh, .int .i64 wo, .int .i64 qu, .int .i64 tr], .int .i64 l] w fun e w' => e = .returned (.int .u64 (nw M xs l)) ∧ Below w.heap.size w w' := by
  have hlen := h.len
  have hm := hM.most
  have hwd : wd M l ≤ 32 := by unfold wd; omega
  have hN := Lib.hid (nw_first M l hl)
  have T1 := fun w => Lib.hid (width_any M l hm (by omega) w)
  have T2 : ∀ w, Hid (Calls Try.prog 23 #[.int .i64 32] w fun e w' => e = .returned (.int .u64 (msk 32)) ∧ w = w') := fun w => mask_any 32 (by decide) w
  have T3 := fun w => Lib.hid (mask_any (wd M l) (by omega) w)
  have hk1 := msk_lt (n := 32) (by decide)
  have hk2 := msk_lt (n := wd M l) (by omega)
  generalize wd M l = W at *
  generalize msk W = m2 at *
  generalize msk 32 = m1 at *
  have hA : Go.bits .andNot .u64 (m1 : Int) (m2 : Int) = (nw M [] l : Nat) := by rw [u64_andNot_nat m1 m2 hk1 hk2, hN.out]
  clear hN hk1 hk2
  have K := below_alloc w (.cells #[.int .u32 a, .int .i64 p, .slice A n c, .int .i64 sh, .int .i64 wo, .int .i64 qu, .int .i64 tr] 27)
  have H := Bk.new w #[.int .u32 a, .int .i64 p, .slice A n c, .int .i64 sh, .int .i64 wo, .int .i64 qu, .int .i64 tr] 27
  replace h := h.below K
  go_enter Try.func24, Try.ntmps24
  go_wp2_with fail
  generalize w.alloc (.cells #[.int .u32 a, .int .i64 p, .slice A n c, .int .i64 sh, .int .i64 wo, .int .i64 qu, .int .i64 tr] 27) = w1 at H K h ⊢
  generalize w.heap.size = g at H ⊢
  refine (many_yes ha hM).mono ?_
  rintro e w2 ⟨rfl, K'⟩
  replace H := H.below K'
  replace h := h.below K'
  replace K := Below.then_ K K'
  clear K'
  have H_0 := H.at_ (v := .int .u32 a) 0 rfl
  have H_1 := H.at_ (v := .int .i64 p) 1 rfl
  have H_2 := H.at_ (v := .slice A n c) 2 rfl
  have H_3 := H.at_ (v := .int .i64 sh) 3 rfl
  have H_4 := H.at_ (v := .int .i64 wo) 4 rfl
  have H_5 := H.at_ (v := .int .i64 qu) 5 rfl
  have H_6 := H.at_ (v := .int .i64 tr) 6 rfl
  have H_z := H.lt
  go_wp2_with (first
    | ((with_reducible refine ((T1 _).out).mono ?_); rintro e w' ⟨rfl, rfl⟩)
    | ((with_reducible refine ((T2 _).out).mono ?_); rintro e w' ⟨rfl, rfl⟩)
    | ((with_reducible refine ((T3 _).out).mono ?_); rintro e w' ⟨rfl, rfl⟩))
  clear T1 T2 T3 hA
  go_loop [6, 23] (fun m i => ∃ k : Nat, k ≤ n ∧ i = .int .i64 k ∧ m = .int .u64 (nw M (xs.take k) l)) (fun _ i => n - (intOf i).toNat)
  case atStart => exact ⟨0, Nat.zero_le _, rfl, rfl⟩
  case round =>
    obtain ⟨k, hk, rfl, rfl⟩ := hrel
    by_cases hlt : k < n
    · have hx := risB_mem hr (gi_mem (xs := xs) (j := k) (by omega))
      obtain ⟨o, ho⟩ : ∃ o : Nat, gi xs k = (o : Int) := ⟨(gi xs k).toNat, by omega⟩
      obtain ⟨b, off, rfl, _, hc⟩ := h.get hlt
      rw [ho] at hc
      have ho2 : o ≤ 65536 := by omega
      have T := fun w => Lib.hid (leaf_any o ho2 w)
      obtain ⟨q, hq⟩ : ∃ q : Nat, q = o / 32 := ⟨_, rfl⟩
      obtain ⟨r, hr2⟩ : ∃ r : Nat, r = o % 32 := ⟨_, rfl⟩
      have hr3 : r < 64 := by omega
      rw [← hq, ← hr2] at T
      by_cases he : q = l
      · have S := Lib.hid (nw_hit (M := M) (xs := xs) (by omega) ho (hq.symm.trans he))
        rw [← hr2] at S
        have e1 : ((q : Int) == (l : Int)) = true := by simp [he]
        have T2 := fun w => Lib.hid (with_any (nw M (xs.take k) l) r (nw_lt _ _ _) hr3 w)
        clear ho hx hq hr2 he
        go_wp2_with (first
          | ((with_reducible refine ((T _).out).mono ?_); rintro e w' ⟨rfl, rfl⟩)
          | ((with_reducible refine ((T2 _).out).mono ?_); rintro e w' ⟨rfl, rfl⟩))
        go_round
        case rel => exact ⟨k + 1, by omega, by go_num, by rw [S.out]⟩
        case measure => simp [intOf]; omega
      · have S := Lib.hid (nw_miss (M := M) (xs := xs) (l := l) (by omega) ho (by omega))
        have e1 : ((q : Int) == (l : Int)) = false := by simp; omega
        clear ho hx hq hr2 he
        go_wp2_with ((with_reducible refine ((T _).out).mono ?_); rintro e w' ⟨rfl, rfl⟩)
        go_round
        case rel => exact ⟨k + 1, by omega, by go_num, by rw [S.out]⟩
        case measure => simp [intOf]; omega
    · go_wp2
      go_ret
      have e : k = n := by omega
      subst e
      refine ⟨ret_int ?_, K⟩
      rw [List.take_of_length_le (by omega)]
end
end Go.Proofs.Ytacgjaohfcoigaa

/-
  What Cells of package word answers of a configuration that may be: the first cells; nothing that was there is otherwise.
-/
namespace Go.Proofs.Ytacgjaohfcoigaa
set_option maxRecDepth 100000
open Go.RowKit
theorem Blk.below {w w' : World} {g : Nat} {t : TypeId} {xs : List Nat} (h : Blk w g t xs) (K : Below w.heap.size w w') : Blk w' g t xs := (K.block g h.lt).trans h
theorem wfree_any {w : World} {g M j : Nat} {xs : List Nat} (hB : Blk w g 42 xs) (hl : xs.length = lv M + tv M + 1) (hf : ∀ x ∈ xs, x < U64) (hm : M ≤ 65536) (hj : j < lv M) :
    Calls Try.prog 26 #[.slice (some ⟨g, 0, none⟩) (lv M + tv M + 1) (lv M + tv M + 1), .int .i64 M, .int .i64 j] w fun e w' => e = .returned (.tuple #[]) ∧ Blk w' g 42 ((xs.set (lv M + j / 64) (clrb (gt xs (lv M + j / 64)) (j % 64))).set (lv M + tv M) (clrb (gt xs (lv M + tv M)) (j / 64))) ∧ Below g w w' := by
  have h1 := lv_le hm
  have h2 := tv_le hm
  have h3 : j / 64 < tv M := by unfold tv tq; omega
  have T1 := fun w => Lib.hid (top_any M j hm (by omega) w)
  have T2 := fun w => Lib.hid (rootof_any M j hm (by omega) w)
  obtain ⟨tp, htp⟩ : ∃ x : Nat, x = lv M + j / 64 := ⟨_, rfl⟩
  obtain ⟨rt, hrt⟩ : ∃ x : Nat, x = lv M + tv M := ⟨_, rfl⟩
  obtain ⟨b1, hb1⟩ : ∃ x : Nat, x = j % 64 := ⟨_, rfl⟩
  obtain ⟨b2, hb2⟩ : ∃ x : Nat, x = j / 64 := ⟨_, rfl⟩
  rw [← htp, ← hb1] at T1
  rw [← hrt, ← hb2] at T2
  rw [← htp, ← hrt, ← hb1, ← hb2]
  rw [← hrt] at hl
  have g1 : tp < rt + 1 := by omega
  have g2 : tp ≠ rt := by omega
  have g3 : b1 < 64 := by omega
  have g4 : b2 < 64 := by omega
  have g5 : rt ≤ 3000 := by omega
  have C1 := fun w => Lib.hid (clear_any (gt xs tp) b1 (gt_lt hf tp) g3 w)
  have C2 := fun w => Lib.hid (clear_any (gt xs rt) b2 (gt_lt hf rt) g4 w)
  have c1 := hB.cell (i := tp) (by omega)
  have f1 := hB.frozen tp
  have hB1 := hB.set_ tp (clrb (gt xs tp) b1)
  have c2 := hB1.cell (i := rt) (by simp; omega)
  rw [gt_set (by omega), if_neg g2] at c2
  have f2 := hB1.frozen rt
  have hB2 := Lib.hid (hB1.set_ rt (clrb (gt xs rt) b2))
  clear hB1 hB htp hrt hb1 hb2 h3 hf hl
  generalize clrb (gt xs tp) b1 = v1 at *
  generalize clrb (gt xs rt) b2 = v2 at *
  generalize gt xs tp = x1 at *
  generalize gt xs rt = x2 at *
  go_enter Try.func26, Try.ntmps26
  go_wp2_with (first
    | ((with_reducible refine ((T1 _).out).mono ?_); rintro e w' ⟨rfl, rfl⟩)
    | ((with_reducible refine ((T2 _).out).mono ?_); rintro e w' ⟨rfl, rfl⟩)
    | ((with_reducible refine ((C1 _).out).mono ?_); rintro e w' ⟨rfl, rfl⟩)
    | ((with_reducible refine ((C2 _).out).mono ?_); rintro e w' ⟨rfl, rfl⟩))
  go_end0
  exact ⟨rfl, hB2.out, ((Below.refl g w).setCell (p := ⟨g, tp, none⟩) (Nat.le_refl _) _).setCell (p := ⟨g, rt, none⟩) (Nat.le_refl _) _⟩
end Go.Proofs.Ytacgjaohfcoigaa

/-
  Operations that sweep, as functions of numbers. No program in it.
-/
namespace Go.Proofs.Ytacgjaohfcoigaa
set_option maxRecDepth 100000
open Go.RowKit
set_option linter.unusedVariables false
/-- The operation in another Phase, with nothing left of its sweep. -/
def swLe (s : Sc) (ph : Int) : Sc := ⟨s.kind, s.addr, s.err, s.aad, s.used, ph, s.shard, s.sought, s.leaf, s.bit, s.word, s.full, 0, s.tries, s.item, s.stamp⟩
/-- A bit was found: it is claimed. -/
def swFc (s : Sc) (x b : Nat) : Sc := ⟨s.kind, s.addr, s.err, s.aad, s.used, 3, s.shard, s.sought, s.at_, (b : Int), x, s.full, 0, s.tries, s.item, s.stamp⟩
/-- The next leaf; the second collect; all was used. -/
def swMv (s : Sc) : Sc := ⟨s.kind, s.addr, s.err, s.aad, s.used, s.phase, s.shard, s.sought, s.leaf, s.bit, s.word, s.full, s.at_ + 1, s.tries, s.item, s.stamp⟩
def swAg (s : Sc) : Sc := ⟨s.kind, s.addr, s.err, s.aad, s.used, 7, s.shard, s.sought, s.leaf, s.bit, s.word, s.full, 0, s.tries, s.item, s.stamp⟩
def swEn (s : Sc) : Sc := ⟨s.kind, s.addr, 9, s.aad, s.used, 0, s.shard, s.sought, s.leaf, s.bit, s.word, s.full, 0, s.tries, s.item, s.stamp⟩
/-- A step of a Grant's first collect that read x; of its second one. -/
def swF (L : Nat) (x : Nat) (s : Sc) : Sc := if fb x 32 = true then swFc s x (fi x 32) else if s.at_ + 1 < (L : Int) then swMv s else swAg s
def swA (L : Nat) (x y : Nat) (s : Sc) : Sc := if x = y then (if s.at_ + 1 < (L : Int) then swMv s else swEn s) else swLe s 6
end Go.Proofs.Ytacgjaohfcoigaa

/-
  A seek, step by step: which leaves it has passed, where it is, how far it can go on. No program in it.
-/
namespace Go.Proofs.Ytacgjaohfcoigaa
set_option maxRecDepth 100000
set_option linter.unusedVariables false
/-- Is the leaf hinted to be full? -/
def hf (M : Nat) (ys : List Nat) (i : Nat) : Bool := (gt ys (lv M + i / 64)).testBit (i % 64) || (gt ys (lv M + tv M)).testBit (i / 64)
/-- The leaves of the k-th shard that is sought. -/
def sa (M ns hd k : Nat) : Nat := ct (lv M) ns ((hd + k) % ns)
def sb (M ns hd k : Nat) : Nat := ct (lv M) ns ((hd + k) % ns + 1)
def Pas (M ns hd : Nat) (ys : List Nat) (k : Nat) : Prop := ∀ j, j < k → ∀ i, sa M ns hd j ≤ i → i < sb M ns hd j → hf M ys i = true
section
variable {M ns hd k t : Nat} {ys : List Nat} {s : Sc}
theorem Pas.succ (h : Pas M ns hd ys k) (h2 : ∀ i, sa M ns hd k ≤ i → i < sb M ns hd k → hf M ys i = true) : Pas M ns hd ys (k + 1) := fun j hj i h3 h4 => by
  by_cases e : j = k
  · subst e; exact h2 i h3 h4
  · exact h j (by omega) i h3 h4
end
end Go.Proofs.Ytacgjaohfcoigaa

/-
  A grant, step by step, as functions of numbers and lists; what holds of it whatever others do between. No program in it.
-/
namespace Go.Proofs.Ytacgjaohfcoigaa
set_option maxRecDepth 100000
set_option maxRecDepth 100000
open Go.RowKit
set_option linter.unusedVariables false
/-- A step of a grant: the operation, what it has seen, the cells, whether it takes effect. -/
def gS (a M ns : Nat) (ys : List Nat) (s : Sc) (sn : List Nat) : Sc :=
  if s.phase = 1 then skS (ns : Int) M ys (sa M ns s.shard.toNat s.sought.toNat) (sb M ns s.shard.toNat s.sought.toNat) s
  else if s.phase = 2 then lookS (ns : Int) (gt ys s.leaf.toNat) s
  else if s.phase = 3 then claimS a 0 [] (gt ys s.leaf.toNat) s
  else if s.phase = 4 ∨ s.phase = 5 then stO a M 0 [] ys s
  else if s.phase = 6 then swF (lv M) (gt ys s.at_.toNat) s
  else if s.phase = 7 then swA (lv M) (gt ys s.at_.toNat) (gt sn s.at_.toNat) s
  else s
def gN (M : Nat) (ys : List Nat) (s : Sc) (sn : List Nat) : List Nat :=
  if s.phase = 6 then (if fb (gt ys s.at_.toNat) 32 = true then [] else sn ++ [gt ys s.at_.toNat])
  else if s.phase = 7 then (if gt ys s.at_.toNat = gt sn s.at_.toNat then (if s.at_ + 1 < (lv M : Int) then sn else []) else [])
  else sn
def gC (M : Nat) (ys : List Nat) (s : Sc) : List Nat :=
  if s.phase = 3 then claimC ys s else if s.phase = 4 ∨ s.phase = 5 then stC M ys s else ys
/-- The cells: as many as there are, and in the leaves the bits that can't be free are set. -/
structure YI (M : Nat) (zs : List Int) (ys : List Nat) : Prop where
  len : ys.length = lv M + tv M + 1
  fit : ∀ x ∈ ys, x < U64
  top : ∀ i b, i < lv M → b < 32 → nf M zs i b = true → (gt ys i).testBit b = true
section
variable {a M ns N : Nat} {zs : List Int} {ys : List Nat} {s : Sc} {sn : List Nat}
theorem YI.leaf (h : YI M zs ys) {i W : Nat} (hi : i < lv M) (hW : W < U64) (hb : ∀ b, b < 32 → nf M zs i b = true → W.testBit b = true) : YI M zs (ys.set i W) := by
  refine ⟨by simpa using h.len, fit_set h.fit _ hW, fun j b hj hb' hn => ?_⟩
  rw [gt_set (by have := h.len; omega)]
  split
  · rename_i e; subst e; exact hb b hb' hn
  · exact h.top j b hj hb' hn
theorem YI.sum (h : YI M zs ys) {i W : Nat} (hi : lv M ≤ i) (hW : W < U64) : YI M zs (ys.set i W) := by
  refine ⟨by simpa using h.len, fit_set h.fit _ hW, fun j b hj hb' hn => ?_⟩
  have e : gt (ys.set i W) j = gt ys j := by
    by_cases hl : i < ys.length
    · rw [gt_set hl, if_neg (by omega)]
    · rw [List.set_eq_of_length_le (by omega)]
  rw [e]; exact h.top j b hj hb' hn
theorem gt_sum {i j W : Nat} (hi : lv M ≤ i) (hj : j < lv M) : gt (ys.set i W) j = gt ys j := by
  by_cases hl : i < ys.length
  · rw [gt_set hl, if_neg (by omega)]
  · rw [List.set_eq_of_length_le (by omega)]
end
end Go.Proofs.Ytacgjaohfcoigaa

/-
  What the document's Small, Most, Disturb and Begin of layer 17, and grant.Begin, answer. Conditions: a block that may be.
-/
namespace Go.Proofs.Ytacgjaohfcoigaa
set_option maxRecDepth 100000
set_option maxRecDepth 100000
open Go.RowKit
set_option linter.unusedVariables false
def RetW (P : Prop) (w : World) (e : Ending) (w' : World) : Prop := ∃ b, e = .returned (.bool b) ∧ (b = true → P) ∧ Below w.heap.size w w'
/-- What is known of a configuration that may be, of a small block. -/
structure Cg (a : Nat) (p : Int) (n : Nat) (zs : List Int) (sh : Int) (M ns : Nat) : Prop where
  much : Much a p M
  few : n ≤ 64
  ris : risB M 0 zs = true
  sml : M ≤ 256
  ns_ : sh = (ns : Int)
  ns1 : 1 ≤ ns
  ns2 : ns ≤ 64
theorem wrap_mul (x k : Nat) : ∃ W : Nat, IntKind.u64.wrap ((x : Int) * (k : Int)) = (W : Int) ∧ W < U64 :=
  ⟨x * k % 18446744073709551616, by rw [IntKind.wrap_u64, ← Int.natCast_mul]; exact (Int.natCast_emod _ _).symm, Nat.mod_lt _ (by decide)⟩
/-- What somebody else does. -/
def DistR (M : Nat) (zs : List Int) (ys ys' : List Nat) : Prop :=
  (∃ o, o < M ∧ hasB zs (o : Int) = false ∧ (gt ys (o / 32)).testBit (o % 32) = true ∧ ys' = ys.set (o / 32) (drp (gt ys (o / 32)) (o % 32))) ∨
  (∃ o, o < M ∧ hasB zs (o : Int) = false ∧ (gt ys (o / 32)).testBit (o % 32) = false ∧ ys' = ys.set (o / 32) (clm (gt ys (o / 32)) (o % 32))) ∨
  (∃ i W, lv M ≤ i ∧ W < U64 ∧ ys' = ys.set i W) ∨ ys' = ys
def RetD (M : Nat) (zs : List Int) (ys : List Nat) (m : Nat) (B0 : Option Addr) (w : World) (e : Ending) (w' : World) : Prop :=
  ∃ B d ys', e = .returned (.slice B m d) ∧ US w' B m d ys' ∧ DistR M zs ys ys' ∧ (∀ k, k < w.heap.size → Apart k B0 → Apart k B) ∧ Below w.heap.size w w'
theorem retD_new {M : Nat} {zs : List Int} {ys ys2 : List Nat} {m : Nat} {B0 : Option Addr} {w w' : World} {g d : Nat} (U : US w' (some ⟨g, 0, none⟩) m d ys2) (hD : DistR M zs ys ys2) (hg : w.heap.size ≤ g) (K : Below w.heap.size w w') : RetD M zs ys m B0 w (.returned (.slice (some ⟨g, 0, none⟩) m d)) w' :=
  ⟨_, _, ys2, rfl, U, hD, fun k hk _ b o e => by injection e with e; injection e with e1; omega, K⟩
section
variable {w w1 : World} {lo a m d D M ns N : Nat} {p sh wo qu tr : Int} {A B : Option Addr} {n c : Nat} {zs : List Int} {sn ys : List Nat} {h : Hd} {s : Sc}
set_option maxRecDepth 100000 in
set_option maxHeartbeats 2000000 in
theorem small_may (ha : a < 4294967296) (h0 : IS .i64 lo w A n c zs) (hb : confB a p n zs sh wo qu tr = false) :
    Calls Try.prog 17 #[.agg #[.int .u32 (a : Int), .int .i64 p, .slice A n c, .int .i64 sh, .int .i64 wo, .int .i64 qu, .int .i64 tr]] w (RetW (∃ M ns, Cg a p n zs sh M ns) w) := by
  go_enter Try.func17, Try.ntmps17
  go_upto_region 1 with (fail)
  have L := Loc.start w
  replace L := (L).alloc #[.int .u32 (a : Int), .int .i64 p, .slice A n c, .int .i64 sh, .int .i64 wo, .int .i64 qu, .int .i64 tr] 27
  try simp only [World.size_alloc] at L
  try dsimp only [nput] at L
  generalize (w).alloc (.cells #[.int .u32 (a : Int), .int .i64 p, .slice A n c, .int .i64 sh, .int .i64 wo, .int .i64 qu, .int .i64 tr] 27) = w1 at L ⊢
  generalize w.heap.size = gH at L ⊢
  go_wp2_with (refine wpList_load_row rfl 27 (.tmp 1) rfl gH rfl _ _ (0, 0) _ (L.bk_ 0 rfl) Try.underlying27 rfl cf_sz ?_)
  refine (rmay_is ha (h0.below L.K) hb).mono ?_
  rintro e w2 ⟨rfl, K'⟩
  replace L := L.over K'
  go_wp2
  go_ret
  exact ⟨false, rfl, (fun e => by cases e), L.K⟩
set_option maxRecDepth 100000 in
set_option maxHeartbeats 2000000 in
theorem small_no (ha : a < 4294967296) (h0 : IS .i64 lo w A n c zs) (hb : confB a p n zs sh wo qu tr = true) (hC : Much a p M) (hm : ¬ M ≤ 256) :
    Calls Try.prog 17 #[.agg #[.int .u32 (a : Int), .int .i64 p, .slice A n c, .int .i64 sh, .int .i64 wo, .int .i64 qu, .int .i64 tr]] w (RetW (∃ M ns, Cg a p n zs sh M ns) w) := by
  have hM : Much a p M := hC
  have e2 : decide ((M : Int) ≤ 256) = false := by simp only [decide_eq_false_iff_not]; omega
  replace hC := Lib.hid hC
  go_enter Try.func17, Try.ntmps17
  go_upto_region 1 with (fail)
  have L := Loc.start w
  replace L := (L).alloc #[.int .u32 (a : Int), .int .i64 p, .slice A n c, .int .i64 sh, .int .i64 wo, .int .i64 qu, .int .i64 tr] 27
  try simp only [World.size_alloc] at L
  try dsimp only [nput] at L
  generalize (w).alloc (.cells #[.int .u32 (a : Int), .int .i64 p, .slice A n c, .int .i64 sh, .int .i64 wo, .int .i64 qu, .int .i64 tr] 27) = w1 at L ⊢
  generalize w.heap.size = gH at L ⊢
  go_wp2_with (refine wpList_load_row rfl 27 (.tmp 1) rfl gH rfl _ _ (0, 0) _ (L.bk_ 0 rfl) Try.underlying27 rfl cf_sz ?_)
  refine (rmay_is ha (h0.below L.K) hb).mono ?_
  rintro e w2 ⟨rfl, K'⟩
  replace L := L.over K'
  have H_0 := L.at_ 0 0 rfl (v := .int .u32 (a : Int)) rfl
  have H_1 := L.at_ 0 1 rfl (v := .int .i64 p) rfl
  have H_z := L.lt 0 rfl
  go_wp2_with fail
  refine (rmany_yes hM).mono ?_
  rintro e w3 ⟨rfl, K'⟩
  clear H_0 H_1 H_z
  replace L := L.over K'
  go_wp2
  go_ret
  exact ⟨false, rfl, (fun e => by cases e), L.K⟩
set_option maxRecDepth 100000 in
set_option maxHeartbeats 2000000 in
theorem small_yes (ha : a < 4294967296) (h0 : IS .i64 lo w A n c zs) (hb : confB a p n zs sh wo qu tr = true) (hC : Cg a p n zs sh M ns) (hm : M ≤ 256) :
    Calls Try.prog 17 #[.agg #[.int .u32 (a : Int), .int .i64 p, .slice A n c, .int .i64 sh, .int .i64 wo, .int .i64 qu, .int .i64 tr]] w (RetW (∃ M ns, Cg a p n zs sh M ns) w) := by
  have hM : Much a p M := hC.much
  have e2 : decide ((M : Int) ≤ 256) = true := by simp; omega
  replace hC := Lib.hid hC
  go_enter Try.func17, Try.ntmps17
  go_upto_region 1 with (fail)
  have L := Loc.start w
  replace L := (L).alloc #[.int .u32 (a : Int), .int .i64 p, .slice A n c, .int .i64 sh, .int .i64 wo, .int .i64 qu, .int .i64 tr] 27
  try simp only [World.size_alloc] at L
  try dsimp only [nput] at L
  generalize (w).alloc (.cells #[.int .u32 (a : Int), .int .i64 p, .slice A n c, .int .i64 sh, .int .i64 wo, .int .i64 qu, .int .i64 tr] 27) = w1 at L ⊢
  generalize w.heap.size = gH at L ⊢
  go_wp2_with (refine wpList_load_row rfl 27 (.tmp 1) rfl gH rfl _ _ (0, 0) _ (L.bk_ 0 rfl) Try.underlying27 rfl cf_sz ?_)
  refine (rmay_is ha (h0.below L.K) hb).mono ?_
  rintro e w2 ⟨rfl, K'⟩
  replace L := L.over K'
  have H_0 := L.at_ 0 0 rfl (v := .int .u32 (a : Int)) rfl
  have H_1 := L.at_ 0 1 rfl (v := .int .i64 p) rfl
  have H_z := L.lt 0 rfl
  go_wp2_with fail
  refine (rmany_yes hM).mono ?_
  rintro e w3 ⟨rfl, K'⟩
  clear H_0 H_1 H_z
  replace L := L.over K'
  go_wp2
  go_ret
  exact ⟨true, rfl, (fun _ => ⟨M, ns, hC.out⟩), L.K⟩
theorem small_any (ha : a < 4294967296) (h0 : IS .i64 lo w A n c zs) :
    Calls Try.prog 17 #[.agg #[.int .u32 (a : Int), .int .i64 p, .slice A n c, .int .i64 sh, .int .i64 wo, .int .i64 qu, .int .i64 tr]] w (RetW (∃ M ns, Cg a p n zs sh M ns) w) := by
  cases hb : confB a p n zs sh wo qu tr with
  | false => exact small_may ha h0 hb
  | true =>
    obtain ⟨h1, h2, h3, h4, h5, _⟩ := confB_no hb
    have hM := Much.of h1
    by_cases hm : 2 ^ (32 - p.toNat) ≤ 256
    · exact small_yes ha h0 hb (M := 2 ^ (32 - p.toNat)) (ns := sh.toNat) ⟨hM, h2, by rw [← hM.manyI]; exact h3, hm, by omega, by omega, by omega⟩ hm
    · exact small_no ha h0 hb hM hm
set_option maxRecDepth 100000 in
set_option maxHeartbeats 2000000 in
theorem dist_drop (hD : D < 4294967296) (hC : Cg a p n zs (ns : Int) M ns) (h0 : IS .i64 lo w A n c zs) (hY : YI M zs ys) (hU : US w B m d ys) (hlt : D % 8 < 4) (hhe : hasB zs ((D / 8 % M : Nat) : Int) = false) (hbt : (gt ys (D / 8 % M / 32)).testBit (D / 8 % M % 32) = true) :
    Calls Try.prog 9 #[.agg #[.int .u32 (a : Int), .int .i64 p, .slice A n c, .int .i64 (ns : Int), .int .i64 wo, .int .i64 qu, .int .i64 tr], .slice B m d, .int .u32 (D : Int)] w (RetD M zs ys m B w) := by
  have hM := hC.much
  have hn9 := hC.few
  have hMp := hM.pos
  have hM9 := hC.sml
  have hml := hU.len
  have hyl := hY.len
  have hm := hM.most
  have hl3 := lv_le hm
  have ht3 := tv_le hm
  have hm6 : m ≤ 65536 := by omega
  have hm0 : 0 < m := by omega
  obtain ⟨q, hq⟩ : ∃ x, x = D / 8 := ⟨_, rfl⟩
  obtain ⟨r, hr⟩ : ∃ x, x = D % 8 := ⟨_, rfl⟩
  obtain ⟨o, ho⟩ : ∃ x, x = q % M := ⟨_, rfl⟩
  have hoM : o < M := by rw [ho]; exact Nat.mod_lt _ hMp
  have a1 : (D : Int) / 8 = (q : Int) := by omega
  have a2 : (D : Int).tdiv 8 = (q : Int) := by rw [Int.tdiv_eq_ediv_of_nonneg (by omega)]; omega
  have a3 : (D : Int) % 8 = (r : Int) := by omega
  have a4 : (D : Int).tmod 8 = (r : Int) := by rw [Int.tmod_eq_emod_of_nonneg (by omega)]; omega
  have a5 : (q : Int) % (M : Int) = (o : Int) := by rw [ho]; exact (Int.natCast_emod q M).symm
  have a6 : (q : Int).tmod (M : Int) = (o : Int) := by rw [Int.tmod_eq_emod_of_nonneg (by omega)]; exact a5
  have hM00 : ¬ ((M : Int) = 0) := by omega
  have TMy := fun w => Lib.hid (rmany_yes (w := w) hM)
  have c1 : decide ((r : Int) < 4) = true := by simp; omega
  rw [← hq, ← ho] at hhe hbt
  have THe := fun w (h0 : IS .i64 lo w A n c zs) => Lib.hid (rheld_is (w := w) (a := a) (p := p) (sh := (ns : Int)) (wo := wo) (qu := qu) (tr := tr) h0 (by omega) hhe)
  obtain ⟨i, hi⟩ : ∃ x, x = o / 32 := ⟨_, rfl⟩
  obtain ⟨b, hb⟩ : ∃ x, x = o % 32 := ⟨_, rfl⟩
  have b1 : (o : Int) / 32 = (i : Int) := by omega
  have b2 : (o : Int).tdiv 32 = (i : Int) := by rw [Int.tdiv_eq_ediv_of_nonneg (by omega)]; omega
  have b3 : (o : Int) % 32 = (b : Int) := by omega
  have b4 : (o : Int).tmod 32 = (b : Int) := by rw [Int.tmod_eq_emod_of_nonneg (by omega)]; omega
  have hil : i < lv M := by unfold lv; omega
  have him : i < m := by omega
  have him2 : (i : Int) < (m : Int) := by omega
  have hb32 : b < 32 := by omega
  obtain ⟨bb, oo, hBe, hbb, hcc⟩ := hU.get him
  subst hBe
  obtain ⟨x, hx⟩ : ∃ x, x = gt ys i := ⟨_, rfl⟩
  have hx64 : x < 18446744073709551616 := by rw [hx]; exact gt_lt hY.fit _
  rw [← hi, ← hb, ← hx] at hbt; rw [← hx] at hcc
  have hDR : DistR M zs ys (ys.set i (drp x b)) := .inl ⟨o, hoM, hhe, by rw [← hi, ← hb, ← hx]; exact hbt, by rw [← hi, ← hb, ← hx]⟩
  have THb := fun w => Lib.hid (rhas_any x b hx64 (by omega) w)
  simp only [hbt] at THb
  have TCl := fun w => Lib.hid (rdrop_any x b hx64 (by omega) w)
  have hy64 : (drp x b) < U64 := drp_lt _ _
  generalize (drp x b) = y at TCl hy64 hDR
  have TSe : ∀ w, US w (some ⟨bb, oo, none⟩) m d ys → Hid (Calls Try.prog 30 #[.slice (some ⟨bb, oo, none⟩) m d, .int .i64 (i : Nat), .int .u64 (y : Nat)] w (RetSM m (ys.set i y) w)) := fun w U => by have := crset_new U (i : Int) hm6 hy64; rw [stI_nat] at this; exact this
  replace hDR := Lib.hid hDR
  clear hbt hhe hx hi hb ho hq hr hlt hoM hil hY hyl hC
  go_enter Try.func9, Try.ntmps9
  go_upto_region 1 with (fail)
  have L := Loc.start w
  replace L := (L).alloc #[.int .u32 (a : Int), .int .i64 p, .slice A n c, .int .i64 (ns : Int), .int .i64 wo, .int .i64 qu, .int .i64 tr] 27
  try simp only [World.size_alloc] at L
  try dsimp only [nput] at L
  generalize (w).alloc (.cells #[.int .u32 (a : Int), .int .i64 p, .slice A n c, .int .i64 (ns : Int), .int .i64 wo, .int .i64 qu, .int .i64 tr] 27) = w1 at L ⊢
  generalize w.heap.size = gH at L ⊢
  have H_0 := L.at_ 0 0 rfl (v := .int .u32 (a : Int)) rfl
  have H_1 := L.at_ 0 1 rfl (v := .int .i64 p) rfl
  have H_z := L.lt 0 rfl
  go_wp2_with fail
  refine ((TMy _).out).mono ?_
  rintro e w2 ⟨rfl, K'⟩
  clear H_0 H_1 H_z
  replace L := L.over K'
  go_wp2_with (refine wpList_load_want (by rfl) 27 (.tmp 3) rfl gH rfl _ _ (0, 0) _ (L.bk_ 0 rfl) Try.underlying27 rfl cf_sz ?_)
  refine ((THe _ (h0.below L.K)).out).mono ?_
  rintro e w3 ⟨rfl, K'⟩
  replace L := L.over K'
  have X := (L.K.cell (p := ⟨bb, oo + i, none⟩) hbb).trans hcc
  go_wp2_with fail
  refine ((THb _).out).mono ?_
  rintro e w' ⟨rfl, rfl⟩
  clear X
  go_wp2_with fail
  refine ((TCl _).out).mono ?_
  rintro e w' ⟨rfl, rfl⟩
  go_wp2_with fail
  have KS := L.K.size
  refine ((TSe _ (hU.below L.K)).out).mono ?_
  rintro e w4 ⟨gS, dS, rfl, U, hgS, K'⟩
  have Lb := L.lts
  replace L := L.over K'
  replace L := L.us_av (fun i b e b' o e' => by injection e' with e'; injection e' with e1; have := Lb i b e; omega) U
  clear Lb
  try dsimp only [lF, List.cons_append, List.nil_append] at L
  clear U
  go_wp2
  go_ret
  exact retD_new (L.us_ 0 rfl) hDR.out (Nat.le_trans KS hgS) L.K
set_option maxRecDepth 100000 in
set_option maxHeartbeats 2000000 in
theorem dist_claim (hD : D < 4294967296) (hC : Cg a p n zs (ns : Int) M ns) (h0 : IS .i64 lo w A n c zs) (hY : YI M zs ys) (hU : US w B m d ys) (hlt : D % 8 < 4) (hhe : hasB zs ((D / 8 % M : Nat) : Int) = false) (hbt : (gt ys (D / 8 % M / 32)).testBit (D / 8 % M % 32) = false) :
    Calls Try.prog 9 #[.agg #[.int .u32 (a : Int), .int .i64 p, .slice A n c, .int .i64 (ns : Int), .int .i64 wo, .int .i64 qu, .int .i64 tr], .slice B m d, .int .u32 (D : Int)] w (RetD M zs ys m B w) := by
  have hM := hC.much
  have hn9 := hC.few
  have hMp := hM.pos
  have hM9 := hC.sml
  have hml := hU.len
  have hyl := hY.len
  have hm := hM.most
  have hl3 := lv_le hm
  have ht3 := tv_le hm
  have hm6 : m ≤ 65536 := by omega
  have hm0 : 0 < m := by omega
  obtain ⟨q, hq⟩ : ∃ x, x = D / 8 := ⟨_, rfl⟩
  obtain ⟨r, hr⟩ : ∃ x, x = D % 8 := ⟨_, rfl⟩
  obtain ⟨o, ho⟩ : ∃ x, x = q % M := ⟨_, rfl⟩
  have hoM : o < M := by rw [ho]; exact Nat.mod_lt _ hMp
  have a1 : (D : Int) / 8 = (q : Int) := by omega
  have a2 : (D : Int).tdiv 8 = (q : Int) := by rw [Int.tdiv_eq_ediv_of_nonneg (by omega)]; omega
  have a3 : (D : Int) % 8 = (r : Int) := by omega
  have a4 : (D : Int).tmod 8 = (r : Int) := by rw [Int.tmod_eq_emod_of_nonneg (by omega)]; omega
  have a5 : (q : Int) % (M : Int) = (o : Int) := by rw [ho]; exact (Int.natCast_emod q M).symm
  have a6 : (q : Int).tmod (M : Int) = (o : Int) := by rw [Int.tmod_eq_emod_of_nonneg (by omega)]; exact a5
  have hM00 : ¬ ((M : Int) = 0) := by omega
  have TMy := fun w => Lib.hid (rmany_yes (w := w) hM)
  have c1 : decide ((r : Int) < 4) = true := by simp; omega
  rw [← hq, ← ho] at hhe hbt
  have THe := fun w (h0 : IS .i64 lo w A n c zs) => Lib.hid (rheld_is (w := w) (a := a) (p := p) (sh := (ns : Int)) (wo := wo) (qu := qu) (tr := tr) h0 (by omega) hhe)
  obtain ⟨i, hi⟩ : ∃ x, x = o / 32 := ⟨_, rfl⟩
  obtain ⟨b, hb⟩ : ∃ x, x = o % 32 := ⟨_, rfl⟩
  have b1 : (o : Int) / 32 = (i : Int) := by omega
  have b2 : (o : Int).tdiv 32 = (i : Int) := by rw [Int.tdiv_eq_ediv_of_nonneg (by omega)]; omega
  have b3 : (o : Int) % 32 = (b : Int) := by omega
  have b4 : (o : Int).tmod 32 = (b : Int) := by rw [Int.tmod_eq_emod_of_nonneg (by omega)]; omega
  have hil : i < lv M := by unfold lv; omega
  have him : i < m := by omega
  have him2 : (i : Int) < (m : Int) := by omega
  have hb32 : b < 32 := by omega
  obtain ⟨bb, oo, hBe, hbb, hcc⟩ := hU.get him
  subst hBe
  obtain ⟨x, hx⟩ : ∃ x, x = gt ys i := ⟨_, rfl⟩
  have hx64 : x < 18446744073709551616 := by rw [hx]; exact gt_lt hY.fit _
  rw [← hi, ← hb, ← hx] at hbt; rw [← hx] at hcc
  have hDR : DistR M zs ys (ys.set i (clm x b)) := .inr (.inl ⟨o, hoM, hhe, by rw [← hi, ← hb, ← hx]; exact hbt, by rw [← hi, ← hb, ← hx]⟩)
  have THb := fun w => Lib.hid (rhas_any x b hx64 (by omega) w)
  simp only [hbt] at THb
  have TCl := fun w => Lib.hid (rclaim_any x b hx64 (by omega) w)
  have hy64 : (clm x b) < U64 := clm_lt _ _
  generalize (clm x b) = y at TCl hy64 hDR
  have TSe : ∀ w, US w (some ⟨bb, oo, none⟩) m d ys → Hid (Calls Try.prog 30 #[.slice (some ⟨bb, oo, none⟩) m d, .int .i64 (i : Nat), .int .u64 (y : Nat)] w (RetSM m (ys.set i y) w)) := fun w U => by have := crset_new U (i : Int) hm6 hy64; rw [stI_nat] at this; exact this
  replace hDR := Lib.hid hDR
  clear hbt hhe hx hi hb ho hq hr hlt hoM hil hY hyl hC
  go_enter Try.func9, Try.ntmps9
  go_upto_region 1 with (fail)
  have L := Loc.start w
  replace L := (L).alloc #[.int .u32 (a : Int), .int .i64 p, .slice A n c, .int .i64 (ns : Int), .int .i64 wo, .int .i64 qu, .int .i64 tr] 27
  try simp only [World.size_alloc] at L
  try dsimp only [nput] at L
  generalize (w).alloc (.cells #[.int .u32 (a : Int), .int .i64 p, .slice A n c, .int .i64 (ns : Int), .int .i64 wo, .int .i64 qu, .int .i64 tr] 27) = w1 at L ⊢
  generalize w.heap.size = gH at L ⊢
  have H_0 := L.at_ 0 0 rfl (v := .int .u32 (a : Int)) rfl
  have H_1 := L.at_ 0 1 rfl (v := .int .i64 p) rfl
  have H_z := L.lt 0 rfl
  go_wp2_with fail
  refine ((TMy _).out).mono ?_
  rintro e w2 ⟨rfl, K'⟩
  clear H_0 H_1 H_z
  replace L := L.over K'
  go_wp2_with (refine wpList_load_want (by rfl) 27 (.tmp 3) rfl gH rfl _ _ (0, 0) _ (L.bk_ 0 rfl) Try.underlying27 rfl cf_sz ?_)
  refine ((THe _ (h0.below L.K)).out).mono ?_
  rintro e w3 ⟨rfl, K'⟩
  replace L := L.over K'
  have X := (L.K.cell (p := ⟨bb, oo + i, none⟩) hbb).trans hcc
  go_wp2_with fail
  refine ((THb _).out).mono ?_
  rintro e w' ⟨rfl, rfl⟩
  clear X
  go_wp2_with fail
  refine ((TCl _).out).mono ?_
  rintro e w' ⟨rfl, rfl⟩
  go_wp2_with fail
  have KS := L.K.size
  refine ((TSe _ (hU.below L.K)).out).mono ?_
  rintro e w4 ⟨gS, dS, rfl, U, hgS, K'⟩
  have Lb := L.lts
  replace L := L.over K'
  replace L := L.us_av (fun i b e b' o e' => by injection e' with e'; injection e' with e1; have := Lb i b e; omega) U
  clear Lb
  try dsimp only [lF, List.cons_append, List.nil_append] at L
  clear U
  go_wp2
  go_ret
  exact retD_new (L.us_ 0 rfl) hDR.out (Nat.le_trans KS hgS) L.K
set_option maxRecDepth 100000 in
set_option maxHeartbeats 2000000 in
theorem dist_held (hD : D < 4294967296) (hC : Cg a p n zs (ns : Int) M ns) (h0 : IS .i64 lo w A n c zs) (hY : YI M zs ys) (hU : US w B m d ys) (hlt : D % 8 < 4) (hhe : hasB zs ((D / 8 % M : Nat) : Int) = true) :
    Calls Try.prog 9 #[.agg #[.int .u32 (a : Int), .int .i64 p, .slice A n c, .int .i64 (ns : Int), .int .i64 wo, .int .i64 qu, .int .i64 tr], .slice B m d, .int .u32 (D : Int)] w (RetD M zs ys m B w) := by
  have hM := hC.much
  have hn9 := hC.few
  have hMp := hM.pos
  have hM9 := hC.sml
  have hml := hU.len
  have hyl := hY.len
  have hm := hM.most
  have hl3 := lv_le hm
  have ht3 := tv_le hm
  have hm6 : m ≤ 65536 := by omega
  have hm0 : 0 < m := by omega
  obtain ⟨q, hq⟩ : ∃ x, x = D / 8 := ⟨_, rfl⟩
  obtain ⟨r, hr⟩ : ∃ x, x = D % 8 := ⟨_, rfl⟩
  obtain ⟨o, ho⟩ : ∃ x, x = q % M := ⟨_, rfl⟩
  have hoM : o < M := by rw [ho]; exact Nat.mod_lt _ hMp
  have a1 : (D : Int) / 8 = (q : Int) := by omega
  have a2 : (D : Int).tdiv 8 = (q : Int) := by rw [Int.tdiv_eq_ediv_of_nonneg (by omega)]; omega
  have a3 : (D : Int) % 8 = (r : Int) := by omega
  have a4 : (D : Int).tmod 8 = (r : Int) := by rw [Int.tmod_eq_emod_of_nonneg (by omega)]; omega
  have a5 : (q : Int) % (M : Int) = (o : Int) := by rw [ho]; exact (Int.natCast_emod q M).symm
  have a6 : (q : Int).tmod (M : Int) = (o : Int) := by rw [Int.tmod_eq_emod_of_nonneg (by omega)]; exact a5
  have hM00 : ¬ ((M : Int) = 0) := by omega
  have TMy := fun w => Lib.hid (rmany_yes (w := w) hM)
  have c1 : decide ((r : Int) < 4) = true := by simp; omega
  rw [← hq, ← ho] at hhe
  have THe := fun w (h0 : IS .i64 lo w A n c zs) => Lib.hid (rheld_is (w := w) (a := a) (p := p) (sh := (ns : Int)) (wo := wo) (qu := qu) (tr := tr) h0 (by omega) hhe)
  have c2 : ((r : Int) == 4) = false := by simp; omega
  clear ho hq hr hlt hoM hY hC hyl hhe
  go_enter Try.func9, Try.ntmps9
  go_upto_region 1 with (fail)
  have L := Loc.start w
  replace L := (L).alloc #[.int .u32 (a : Int), .int .i64 p, .slice A n c, .int .i64 (ns : Int), .int .i64 wo, .int .i64 qu, .int .i64 tr] 27
  try simp only [World.size_alloc] at L
  try dsimp only [nput] at L
  generalize (w).alloc (.cells #[.int .u32 (a : Int), .int .i64 p, .slice A n c, .int .i64 (ns : Int), .int .i64 wo, .int .i64 qu, .int .i64 tr] 27) = w1 at L ⊢
  generalize w.heap.size = gH at L ⊢
  have H_0 := L.at_ 0 0 rfl (v := .int .u32 (a : Int)) rfl
  have H_1 := L.at_ 0 1 rfl (v := .int .i64 p) rfl
  have H_z := L.lt 0 rfl
  go_wp2_with fail
  refine ((TMy _).out).mono ?_
  rintro e w2 ⟨rfl, K'⟩
  clear H_0 H_1 H_z
  replace L := L.over K'
  go_wp2_with (refine wpList_load_want (by rfl) 27 (.tmp 3) rfl gH rfl _ _ (0, 0) _ (L.bk_ 0 rfl) Try.underlying27 rfl cf_sz ?_)
  refine ((THe _ (h0.below L.K)).out).mono ?_
  rintro e w3 ⟨rfl, K'⟩
  replace L := L.over K'
  go_wp2
  go_ret
  exact ⟨_, _, ys, rfl, hU.below L.K, .inr (.inr (.inr rfl)), fun k _ h => h, L.K⟩
set_option maxRecDepth 100000 in
set_option maxHeartbeats 2000000 in
theorem dist_sum (hD : D < 4294967296) (hC : Cg a p n zs (ns : Int) M ns) (h0 : IS .i64 lo w A n c zs) (hY : YI M zs ys) (hU : US w B m d ys) (hlt : D % 8 = 4) :
    Calls Try.prog 9 #[.agg #[.int .u32 (a : Int), .int .i64 p, .slice A n c, .int .i64 (ns : Int), .int .i64 wo, .int .i64 qu, .int .i64 tr], .slice B m d, .int .u32 (D : Int)] w (RetD M zs ys m B w) := by
  have hM := hC.much
  have hn9 := hC.few
  have hMp := hM.pos
  have hM9 := hC.sml
  have hml := hU.len
  have hyl := hY.len
  have hm := hM.most
  have hl3 := lv_le hm
  have ht3 := tv_le hm
  have hm6 : m ≤ 65536 := by omega
  have hm0 : 0 < m := by omega
  obtain ⟨q, hq⟩ : ∃ x, x = D / 8 := ⟨_, rfl⟩
  obtain ⟨r, hr⟩ : ∃ x, x = D % 8 := ⟨_, rfl⟩
  obtain ⟨o, ho⟩ : ∃ x, x = q % M := ⟨_, rfl⟩
  have hoM : o < M := by rw [ho]; exact Nat.mod_lt _ hMp
  have a1 : (D : Int) / 8 = (q : Int) := by omega
  have a2 : (D : Int).tdiv 8 = (q : Int) := by rw [Int.tdiv_eq_ediv_of_nonneg (by omega)]; omega
  have a3 : (D : Int) % 8 = (r : Int) := by omega
  have a4 : (D : Int).tmod 8 = (r : Int) := by rw [Int.tmod_eq_emod_of_nonneg (by omega)]; omega
  have a5 : (q : Int) % (M : Int) = (o : Int) := by rw [ho]; exact (Int.natCast_emod q M).symm
  have a6 : (q : Int).tmod (M : Int) = (o : Int) := by rw [Int.tmod_eq_emod_of_nonneg (by omega)]; exact a5
  have hM00 : ¬ ((M : Int) = 0) := by omega
  have TMy := fun w => Lib.hid (rmany_yes (w := w) hM)
  have c1 : decide ((r : Int) < 4) = false := by simp; omega
  have c2 : ((r : Int) == 4) = true := by simp; omega
  have TLv := fun w => Lib.hid (rleaves_any M hm w)
  obtain ⟨LV, hLV⟩ : ∃ x, x = lv M := ⟨_, rfl⟩
  rw [← hLV] at TLv hyl
  obtain ⟨T1, hT1⟩ : ∃ x, x = tv M + 1 := ⟨_, rfl⟩
  have d1 : (m : Int) - (LV : Int) = (T1 : Int) := by omega
  have hT00 : ¬ ((T1 : Int) = 0) := by omega
  obtain ⟨z, hz⟩ : ∃ x, x = q % T1 := ⟨_, rfl⟩
  have hzT : z < T1 := by rw [hz]; exact Nat.mod_lt _ (by omega)
  have d2 : (q : Int) % (T1 : Int) = (z : Int) := by rw [hz]; exact (Int.natCast_emod q T1).symm
  have d3 : (q : Int).tmod (T1 : Int) = (z : Int) := by rw [Int.tmod_eq_emod_of_nonneg (by omega)]; exact d2
  obtain ⟨j, hj⟩ : ∃ x : Nat, (LV : Int) + (z : Int) = x := ⟨LV + z, by omega⟩
  have hj2 : j = LV + z := by omega
  obtain ⟨W1, hW1⟩ : ∃ x : Nat, (D : Int) * 2654435761 = (x : Int) := ⟨D * 2654435761, by omega⟩
  have f1 : IntKind.u64.wrap (W1 : Int) = (W1 : Int) := IntWalk.u64_in _ (by omega)
  obtain ⟨W, hW, hW64⟩ : ∃ x : Nat, IntKind.u64.wrap ((W1 : Int) * 1099511628211) = (x : Int) ∧ x < U64 := wrap_mul W1 1099511628211
  have e5 : IntKind.i64.wrap (j : Int) = (j : Int) := IntWalk.i64_in _ (by omega)
  have e6 : IntKind.i64.wrap (T1 : Int) = (T1 : Int) := IntWalk.i64_in _ (by omega)
  have hDR : DistR M zs ys (ys.set j W) := .inr (.inr (.inl ⟨j, W, by omega, hW64, rfl⟩))
  have TSe : ∀ w, US w B m d ys → Hid (Calls Try.prog 30 #[.slice B m d, .int .i64 (j : Nat), .int .u64 (W : Nat)] w (RetSM m (ys.set j W) w)) := fun w U => by have := crset_new U (j : Int) hm6 hW64; rw [stI_nat] at this; exact this
  replace hDR := Lib.hid hDR
  clear hz hj2 hLV hT1 hzT
  clear ho hq hr hlt hoM hY hC hyl
  go_enter Try.func9, Try.ntmps9
  go_upto_region 1 with (fail)
  have L := Loc.start w
  replace L := (L).alloc #[.int .u32 (a : Int), .int .i64 p, .slice A n c, .int .i64 (ns : Int), .int .i64 wo, .int .i64 qu, .int .i64 tr] 27
  try simp only [World.size_alloc] at L
  try dsimp only [nput] at L
  generalize (w).alloc (.cells #[.int .u32 (a : Int), .int .i64 p, .slice A n c, .int .i64 (ns : Int), .int .i64 wo, .int .i64 qu, .int .i64 tr] 27) = w1 at L ⊢
  generalize w.heap.size = gH at L ⊢
  have H_0 := L.at_ 0 0 rfl (v := .int .u32 (a : Int)) rfl
  have H_1 := L.at_ 0 1 rfl (v := .int .i64 p) rfl
  have H_z := L.lt 0 rfl
  go_wp2_with fail
  refine ((TMy _).out).mono ?_
  rintro e w2 ⟨rfl, K'⟩
  clear H_0 H_1 H_z
  replace L := L.over K'
  go_wp2_with fail
  refine ((TLv _).out).mono ?_
  rintro e w' ⟨rfl, rfl⟩
  go_wp2_with fail
  have KS := L.K.size
  refine ((TSe _ (hU.below L.K)).out).mono ?_
  rintro e w3 ⟨gS, dS, rfl, U, hgS, K'⟩
  have Lb := L.lts
  replace L := L.over K'
  replace L := L.us_av (fun i b e b' o e' => by injection e' with e'; injection e' with e1; have := Lb i b e; omega) U
  clear Lb
  try dsimp only [lF, List.cons_append, List.nil_append] at L
  clear U
  go_wp2
  go_ret
  exact retD_new (L.us_ 0 rfl) hDR.out (Nat.le_trans KS hgS) L.K
set_option maxRecDepth 100000 in
set_option maxHeartbeats 2000000 in
theorem dist_no (hD : D < 4294967296) (hC : Cg a p n zs (ns : Int) M ns) (h0 : IS .i64 lo w A n c zs) (hY : YI M zs ys) (hU : US w B m d ys) (hlt : 4 < D % 8) :
    Calls Try.prog 9 #[.agg #[.int .u32 (a : Int), .int .i64 p, .slice A n c, .int .i64 (ns : Int), .int .i64 wo, .int .i64 qu, .int .i64 tr], .slice B m d, .int .u32 (D : Int)] w (RetD M zs ys m B w) := by
  have hM := hC.much
  have hn9 := hC.few
  have hMp := hM.pos
  have hM9 := hC.sml
  have hml := hU.len
  have hyl := hY.len
  have hm := hM.most
  have hl3 := lv_le hm
  have ht3 := tv_le hm
  have hm6 : m ≤ 65536 := by omega
  have hm0 : 0 < m := by omega
  obtain ⟨q, hq⟩ : ∃ x, x = D / 8 := ⟨_, rfl⟩
  obtain ⟨r, hr⟩ : ∃ x, x = D % 8 := ⟨_, rfl⟩
  obtain ⟨o, ho⟩ : ∃ x, x = q % M := ⟨_, rfl⟩
  have hoM : o < M := by rw [ho]; exact Nat.mod_lt _ hMp
  have a1 : (D : Int) / 8 = (q : Int) := by omega
  have a2 : (D : Int).tdiv 8 = (q : Int) := by rw [Int.tdiv_eq_ediv_of_nonneg (by omega)]; omega
  have a3 : (D : Int) % 8 = (r : Int) := by omega
  have a4 : (D : Int).tmod 8 = (r : Int) := by rw [Int.tmod_eq_emod_of_nonneg (by omega)]; omega
  have a5 : (q : Int) % (M : Int) = (o : Int) := by rw [ho]; exact (Int.natCast_emod q M).symm
  have a6 : (q : Int).tmod (M : Int) = (o : Int) := by rw [Int.tmod_eq_emod_of_nonneg (by omega)]; exact a5
  have hM00 : ¬ ((M : Int) = 0) := by omega
  have TMy := fun w => Lib.hid (rmany_yes (w := w) hM)
  have c1 : decide ((r : Int) < 4) = false := by simp; omega
  have c2 : ((r : Int) == 4) = false := by simp; omega
  clear ho hq hr hlt hoM hY hC hyl
  go_enter Try.func9, Try.ntmps9
  go_upto_region 1 with (fail)
  have L := Loc.start w
  replace L := (L).alloc #[.int .u32 (a : Int), .int .i64 p, .slice A n c, .int .i64 (ns : Int), .int .i64 wo, .int .i64 qu, .int .i64 tr] 27
  try simp only [World.size_alloc] at L
  try dsimp only [nput] at L
  generalize (w).alloc (.cells #[.int .u32 (a : Int), .int .i64 p, .slice A n c, .int .i64 (ns : Int), .int .i64 wo, .int .i64 qu, .int .i64 tr] 27) = w1 at L ⊢
  generalize w.heap.size = gH at L ⊢
  have H_0 := L.at_ 0 0 rfl (v := .int .u32 (a : Int)) rfl
  have H_1 := L.at_ 0 1 rfl (v := .int .i64 p) rfl
  have H_z := L.lt 0 rfl
  go_wp2_with fail
  refine ((TMy _).out).mono ?_
  rintro e w2 ⟨rfl, K'⟩
  clear H_0 H_1 H_z
  replace L := L.over K'
  go_wp2
  go_ret
  exact ⟨_, _, ys, rfl, hU.below L.K, .inr (.inr (.inr rfl)), fun k _ h => h, L.K⟩
theorem dist_any (hD : D < 4294967296) (hC : Cg a p n zs (ns : Int) M ns) (h0 : IS .i64 lo w A n c zs) (hY : YI M zs ys) (hU : US w B m d ys) :
    Calls Try.prog 9 #[.agg #[.int .u32 (a : Int), .int .i64 p, .slice A n c, .int .i64 (ns : Int), .int .i64 wo, .int .i64 qu, .int .i64 tr], .slice B m d, .int .u32 (D : Int)] w (RetD M zs ys m B w) := by
  by_cases h4 : D % 8 < 4
  · cases hhe : hasB zs ((D / 8 % M : Nat) : Int) with
    | true => exact dist_held hD hC h0 hY hU h4 hhe
    | false =>
      cases hbt : (gt ys (D / 8 % M / 32)).testBit (D / 8 % M % 32) with
      | true => exact dist_drop hD hC h0 hY hU h4 hhe hbt
      | false => exact dist_claim hD hC h0 hY hU h4 hhe hbt
  · by_cases h5 : D % 8 = 4
    · exact dist_sum hD hC h0 hY hU h5
    · exact dist_no hD hC h0 hY hU (by omega)
end
end Go.Proofs.Ytacgjaohfcoigaa

/-
  The first cells, in new memory. Conditions: a block that may be.
-/
namespace Go.Proofs.Ytacgjaohfcoigaa
set_option maxRecDepth 100000
open Go.RowKit
set_option maxHeartbeats 1000000 in
theorem wcells_new {w : World} {lo a M : Nat} {p sh wo qu tr : Int} {A : Option Addr} {n c : Nat} {xs : List Int} (ha : a < 4294967296) (hM : Much a p M) (h : IS .i64 lo w A n c xs) (hn : n ≤ 65536) (hr : risB M 0 xs = true) :
    Calls Try.prog 8 #[.agg #[.int .u32 a, .int .i64 p, .slice A n c, .int .i64 sh, .int .i64 wo, .int .i64 qu, .int .i64 tr]] w (RetSM (lv M + tv M + 1) (cl (nw M xs) (lv M) (tv M) (lv M)) w) := by
  have hm := hM.most
  have h1 := lv_le hm
  have h2 := tv_le hm
  have h3 : lv M ≤ 64 * tv M := by unfold tv tq; omega
  have h4 : M ≤ 32 * lv M ∧ 32 * lv M < M + 32 := by unfold lv; omega
  have F := fun w g j ys (B : Blk w g 42 ys) e1 e2 e3 => Lib.hid (wfree_any (M := M) (j := j) B e1 e2 hm e3)
  have T1 := fun w => Lib.hid (cells_any M hm w)
  have T2 := fun w => Lib.hid (leaves_any M hm w)
  have T3 : ∀ w, Hid (Calls Try.prog 23 #[.int .i64 64] w fun e w' => e = .returned (.int .u64 (msk 64)) ∧ w = w') := fun w => mask_any 64 (by decide) w
  have hv := nw_lt M xs
  obtain ⟨N, hN⟩ : ∃ N, N = lv M + tv M + 1 := ⟨_, rfl⟩
  rw [← hN] at T1 F ⊢
  obtain ⟨i0, hi, hz0, hz1, hz2⟩ := info_parts u64_info
  have hb8 : i0.bytes * N ≤ 281474976710656 := by rw [hz2]; omega
  have hN2 : N ≤ 3000 := by omega
  generalize lv M = L at *
  generalize tv M = T at *
  have HN := Lib.hid hN
  clear hN
  have K := below_alloc w (.cells #[.int .u32 a, .int .i64 p, .slice A n c, .int .i64 sh, .int .i64 wo, .int .i64 qu, .int .i64 tr] 27)
  have H := Bk.new w #[.int .u32 a, .int .i64 p, .slice A n c, .int .i64 sh, .int .i64 wo, .int .i64 qu, .int .i64 tr] 27
  replace h := h.below K
  go_enter Try.func8, Try.ntmps8
  go_wp2_with fail
  generalize w.alloc (.cells #[.int .u32 a, .int .i64 p, .slice A n c, .int .i64 sh, .int .i64 wo, .int .i64 qu, .int .i64 tr] 27) = w1 at H K h ⊢
  generalize w.heap.size = g at H ⊢
  refine (many_yes ha hM).mono ?_
  rintro e w2 ⟨rfl, K'⟩
  replace H := H.below K'
  replace h := h.below K'
  replace K := Below.then_ K K'
  clear K'
  go_wp2_with (first
    | ((with_reducible refine ((T1 _).out).mono ?_); rintro e w' ⟨rfl, rfl⟩)
    | ((with_reducible refine ((T2 _).out).mono ?_); rintro e w' ⟨rfl, rfl⟩)
    | (at_make; refine wpList_make_full _ rfl (.tmp 11) (.tmp 11) _ rfl w2.heap.size 42 i0 _ 1 Try.underlying33 hi hz0 hz1 .i64 .i64 _ _ N rfl rfl rfl rfl hb8 (by unfold maxLen; omega) (Nat.le_refl _) ?_; intro w3 hown1 hg1; have B := Blk.of_made hown1; clear hown1; have K1 : Below w2.heap.size w2 w3 := (Below.refl _ _).grown hg1 (Nat.le_refl _) (by simp); clear hg1))
  clear hb8 hi hz0 hz1 hz2 T1
  rw [prc_start L] at B
  obtain ⟨g2, hg2⟩ : ∃ x, x = w2.heap.size := ⟨_, rfl⟩
  rw [← hg2] at B ⊢
  have hge : w2.heap.size ≤ g2 := by omega
  clear hg2
  have hg0 : w.heap.size ≤ g2 := Nat.le_trans K.size hge
  go_loopw [5] (fun i wr => ∃ k : Nat, L ≤ k ∧ k ≤ N ∧ i = .int .i64 k ∧ Hid (Blk wr g2 42 (prc L k N)) ∧ Below w2.heap.size w2 wr) (fun i _ => N - (intOf i).toNat)
  case atStart => exact ⟨L, Nat.le_refl _, by have := HN.out; omega, rfl, Lib.hid B, K1⟩
  case round =>
    clear B K1
    obtain ⟨k, hLk, hk, rfl, HB, Kr⟩ := hrel
    by_cases hlt : k < N
    · have c1 := HB.out.cell (i := k) (by rw [prc_len]; omega)
      have f1 := HB.out.frozen k
      have HB2 : Hid (Blk (wr.setCell ⟨g2, k, none⟩ (.int .u64 (msk 64 : Nat))) g2 42 (prc L (k + 1) N)) := by have := HB.out.set_ k (msk 64); rw [prc_step hLk hlt] at this; exact this
      go_wp2_with ((with_reducible refine ((T3 _).out).mono ?_); rintro e w' ⟨rfl, rfl⟩)
      go_roundw
      case rel => exact ⟨k + 1, by omega, by omega, by go_num, HB2, Kr.setCell hge _⟩
      case measure => simp [intOf]; omega
    · obtain rfl : k = N := by omega
      have HB2 : Hid (Blk wr g2 42 (cl (nw M xs) L T 0)) := by have := HB.out; rw [HN.out, prc_end (nw M xs)] at this; exact this
      clear HB
      go_wp2_with ((with_reducible refine ((T2 _).out).mono ?_); rintro e w' ⟨rfl, rfl⟩)
      clear T3 T2 hlt hLk hk
      go_loopw [27] (fun i ws => ∃ j : Nat, j ≤ L ∧ i = .int .i64 j ∧ Hid (Blk ws g2 42 (cl (nw M xs) L T j)) ∧ Below w2.heap.size w2 ws) (fun i _ => L - (intOf i).toNat)
      case atStart => exact ⟨0, Nat.zero_le _, rfl, HB2, Kr⟩
      case round =>
        clear HB2 Kr
        obtain ⟨j, hj, rfl, HB, Kr⟩ := hrel
        replace H := H.below Kr
        replace h := h.below Kr
        have K2 := Below.then_ K Kr
        clear K
        have K := K2
        clear K2
        by_cases hlt : j < L
        · have hjM : 32 * j < M := by omega
          have gH := H.lt
          have H_0 := H.at_ (v := .int .u32 a) 0 rfl
          have H_1 := H.at_ (v := .int .i64 p) 1 rfl
          have H_2 := H.at_ (v := .slice A n c) 2 rfl
          have H_3 := H.at_ (v := .int .i64 sh) 3 rfl
          have H_4 := H.at_ (v := .int .i64 wo) 4 rfl
          have H_5 := H.at_ (v := .int .i64 qu) 5 rfl
          have H_6 := H.at_ (v := .int .i64 tr) 6 rfl
          have H_z := H.lt
          go_wp2_with fail
          refine (wnew_any ha hM h hn hr hjM).mono ?_
          rintro e w6 ⟨rfl, K6⟩
          clear H_0 H_1 H_2 H_3 H_4 H_5 H_6 H_z
          have K' := K6
          replace H := H.below K'
          replace h := h.below K'
          replace Kr := Below.then_ Kr K'
          replace K := Below.then_ K K'
          clear K'
          have B := HB.out.below K6
          clear HB K6
          have B2 := B.set_ j (nw M xs j)
          have c1 := B.cell (i := j) (by rw [cl_len]; omega)
          have f1 := B.frozen j
          have c2 := B2.cell (i := j) (by rw [List.length_set, cl_len]; omega)
          rw [gt_set (by rw [cl_len]; omega), if_pos rfl] at c2
          have V := fun w => Lib.hid (full_any (nw M xs j) (hv j) w)
          have hjT : j / 64 < T := by omega
          have HE : L + T + 1 = k := HN.out.symm
          have hjk : j < k := by omega
          cases hfu : fl (nw M xs j) with
          | true =>
            rw [cl_full hlt hfu] at B2
            rw [hfu] at V
            have HB := Lib.hid B2
            clear B B2 hfu F HE
            have Kx := Kr.setCell (p := ⟨g2, j, none⟩) hge (.int .u64 (nw M xs j : Nat))
            generalize nw M xs j = x at *
            go_wp2_with ((with_reducible refine ((V _).out).mono ?_); rintro e w' ⟨rfl, rfl⟩)
            go_roundw
            case rel => exact ⟨j + 1, by omega, by go_num, HB, Kx⟩
            case measure => simp [intOf]; omega
          | false =>
            have FF := F _ _ j _ B2 (by rw [List.length_set, cl_len]; exact HE) (fit_set (cl_fit hv L T j) j (hv j)) hlt
            rw [gt_set (by rw [cl_len]; omega), gt_set (by rw [cl_len]; omega), if_neg (by omega), if_neg (by omega), gt_cl_top hjT, gt_cl_root, cl_free hlt hjT (by omega) hfu] at FF
            rw [hfu] at V
            clear B B2 hfu F HE
            have Kx := Kr.setCell (p := ⟨g2, j, none⟩) hge (.int .u64 (nw M xs j : Nat))
            generalize nw M xs j = x at *
            go_wp2_with ((with_reducible refine ((V _).out).mono ?_); rintro e w' ⟨rfl, rfl⟩)
            refine ((FF).out).mono ?_
            rintro e w7 ⟨rfl, B7, K7⟩
            go_wp2
            go_roundw
            case rel => exact ⟨j + 1, by omega, by go_num, Lib.hid B7, Kx.trans (K7.mono hge)⟩
            case measure => simp [intOf]; omega
        · obtain rfl : j = L := by omega
          go_wp2
          go_ret
          exact ⟨_, _, rfl, HB.out.us (cl_fit hv _ _ _) (by rw [cl_len]; exact HN.out.symm) (by omega), hg0, K⟩
end Go.Proofs.Ytacgjaohfcoigaa
