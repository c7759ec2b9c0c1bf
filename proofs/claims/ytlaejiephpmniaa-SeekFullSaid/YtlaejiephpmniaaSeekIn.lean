/-
  What a round of a loop over an iterator wants: blocks known whole, read and written, within a fence; what is known of a call's memory abides. No condition on the program.
-/
import Derived.Test.YtlaejiephpmniaaSeekTops
import Derived.Deep.RegionHeld3
import Derived.OrdersIn
namespace Go.Proofs.Ytlaejiephpmniaa
open Go.RowKit Go.Shelf
set_option linter.unusedVariables false
section
variable {F : Fence} {nF : Nat} {P : Program} {ops : Array Oper} {rest : List Oper} {o : Oper} {a : Act} {w : World} {Q : Exit → Act → World → Prop}
theorem wpListIn_load_row (hgd : o.guard = none) (ty : TypeId) (x : Operand) (ho : o.op = .load ty x)
    (g : Nat) (hx : a.eval x = .pointer (some ⟨g, 0, none⟩)) (t : TypeId) (cs : Array Value) (fr : Nat × Nat) (d : TypeDesc) (hg : w.heap[g]? = some (.cells cs t fr))
    (hu : P.underlying ty = some d) (hd : (match d with | .struct _ | .array _ _ => true | _ => false) = true) (hi : (P.info? ty).map (·.size) = some cs.size)
    (h : wpListIn F nF P ops Q rest (a.put o.dst (.agg cs)) w) : wpListIn F nF P ops Q (o :: rest) a w := by
  refine wpListIn_plain hgd fun K hK => ?_
  unfold Oper.wpIn
  refine ⟨by simp [Oper.about, ho], ?_⟩
  rw [Oper.semAt_plain F _ _ (by rw [ho]; intro c hc'; cases hc')]
  simp only [execOp, ho, hx, Instr.loadAt, Instr.sureAddr, Sem.run_bind, Sem.run_pure, Result.andThen_ok, run_loadVar_row w g t ty cs fr d hg hu hd hi]
  exact hK _ _ h
theorem wpListIn_store_row (hgd : o.guard = none) (ty : TypeId) (x y : Operand) (ho : o.op = .store ty x y)
    (g : Nat) (cells : Array Value) (hx : a.eval x = .pointer (some ⟨g, 0, none⟩)) (hy : a.eval y = .agg cells)
    (t : TypeId) (old : Array Value) (hg : w.heap[g]? = some (.cells old t (0, 0))) (hi : (P.info? ty).map (·.size) = some cells.size)
    (hold : old.size = cells.size) (h1 : cells.all (·.oneCell') = true)
    (h : wpListIn F nF P ops Q rest (a.put o.dst undef) (w.setRow g cells)) : wpListIn F nF P ops Q (o :: rest) a w := by
  refine wpListIn_plain hgd fun K hK => ?_
  unfold Oper.wpIn
  refine ⟨by simp [Oper.about, ho], ?_⟩
  rw [Oper.semAt_plain F _ _ (by rw [ho]; intro c hc'; cases hc')]
  simp only [execOp, ho, hx, hy, Instr.storeAt, Instr.sureAddr, Sem.run_bind, Sem.run_pure, Result.andThen_ok, run_storeVar_row w g t ty old cells hg hi hold h1]
  exact hK _ _ h
end
/-- No operation of the region defers a call. -/
def noDefer (ops : Array Oper) : Bool := ops.all fun o => match o.op with | .defer _ => false | _ => true
theorem noDefer_get {ops : Array Oper} (h : noDefer ops = true) {i : Nat} {o : Oper} (ho : ops[i]? = some o) : ∀ c, o.op ≠ .defer c := fun c e => by
  obtain ⟨hi, rfl⟩ := Array.getElem?_eq_some_iff.1 ho
  have := Array.all_eq_true.1 h i hi
  rw [e] at this
  cases this
section
variable {l nF : Nat} {P : Program} {ops : Array Oper} {Q : Exit → Act → World → Prop}
theorem rowsIn_of {P : Program} {row : String} {args : Array Value} {w : World} {R : Value → World → Prop} (h : Rows P row args w R) : RowsIn (Fence.wide.inRound l) nF P row args w R :=
  fun cc cs _ => let ⟨v, w', r, s⟩ := h cc cs; ⟨v, w', r, stepsIn_wide.2 s⟩
/-- In a round of a loop over an iterator an operation is what it is elsewhere, if it defers no call. -/
theorem wpOpIn_of_wpOp (hnd : noDefer ops = true) (hQ : ¬ LetsOut Q) {i : Nat} {K : Act → World → Prop} {a : Act} {w : World} (h : wpOp P ops Q i K a w) : wpOpIn (Fence.wide.inRound l) nF P ops Q i K a w := by
  unfold wpOp at h
  unfold wpOpIn
  cases ho : ops[i]? with
  | none => rw [ho] at h; exact h
  | some o =>
    rw [ho] at h
    dsimp only at h ⊢
    split at h
    · rename_i hw
      rw [if_pos hw]
      rcases h with h | ⟨_, h⟩
      · refine ⟨fun _ _ => trivial, ?_⟩
        rw [Oper.semAt_plain _ _ _ (noDefer_get hnd ho)]
        unfold Oper.wp at h
        generalize (execOp a.eval o).run P w = r at *
        have hd : (Fence.wide.inRound l).depth.isSome = true → 1 ≤ nF := fun e => by cases e
        cases r with
        | ok x w' =>
          cases x with
          | value v => exact h
          | skip => exact h
          | defer d => exact h
          | enter f args =>
            refine ⟨hd, CallsIn.mono (CallsIn.inRound l (callsIn_wide.2 h)) fun e w2 he => ?_⟩
            cases e <;> exact he
          | row row args => exact ⟨hd, rowsIn_of h⟩
          | _ => exact h.elim
        | halt x w' =>
          cases x with
          | panic v => exact h
          | _ => exact h.elim
      · exact (hQ h).elim
    · rename_i hw
      rw [if_neg hw]
      exact ⟨fun _ _ => trivial, h⟩
theorem wpAnyIn_of_wpAny {md : Region.Mode} (hnd : noDefer ops = true) (hQ : ¬ LetsOut Q) : ∀ (fuel : Nat) (listed : Array Bool) (a : Act) (w : World), wpAny P md ops Q fuel listed a w → wpAnyIn (Fence.wide.inRound l) nF P md ops Q fuel listed a w
  | 0, _, _, _, h => h
  | fuel + 1, listed, a, w, h => ⟨h.1, fun i hi => wpOpIn_of_wpOp hnd hQ (wpOp_mono (fun a' w' h' => wpAnyIn_of_wpAny hnd hQ fuel _ a' w' h') (h.2 i hi))⟩
/-- A region that draws its order, in a round: by what holds in every world on the way. -/
theorem wpIn_round_held_drew {S : World → Prop} {id : Nat} {a : Act} {w : World} (hm : P.follows .mixedOrders = true) (hnd : noDefer ops = true) (hQ : ¬ LetsOut Q) (hS : S w.drew)
    (h : S w.drew → wpAnyH P .any ops Q S ops.size (Array.replicate ops.size false) a w.drew) : (Code.region id ops true).wpIn (Fence.wide.inRound l) nF P Q a w :=
  wpIn_region_any hm (wpAnyIn_of_wpAny hnd hQ _ _ _ _ (wpAny_of_held _ _ _ _ (h hS)))
end
theorem bk_own {X Y : World} {row : Option Nat} {g : Nat} {t : TypeId} {l : Array Value} (h : Bk X g t l) (hg : X.grownBy Y row) (hr : ∀ r, row = some r → ∃ o : Obj, X.heap[r]? = some o ∧ o.isCells = false) : Bk Y g t l :=
  (hg.block g h.lt (fun e => by obtain ⟨o, ho, hc⟩ := hr g e.symm; rw [show X.heap[g]? = _ from h] at ho; cases ho; cases hc)).trans h
theorem loc_own {w0 : World} {B : Nat} (hB : w0.heap.size ≤ B) {X Y : World} {row : Option Nat} {bs : List Bl} (L : Loc w0 X bs []) (hg : X.grownBy Y row) (hr : ∀ r, row = some r → B ≤ r ∧ ∃ o : Obj, X.heap[r]? = some o ∧ o.isCells = false) : Loc w0 Y bs [] :=
  ⟨L.K.grown hg L.K.size (fun r e => by have := (hr r e).1; omega), fun i b e => ⟨bk_own (L.bk i b e).1 hg (fun r e' => (hr r e').2), (L.bk i b e).2⟩, L.ne, fun f h => by cases h⟩
theorem keeps_row {w : World} {g : Nat} {t : TypeId} {l : Array Value} (h : Bk w g t l) (l' : Array Value) (B : Nat) : KeepsFrom B w (w.setRow g l') :=
  ⟨by simp, fun k o _ hk ho => by
    have hne : k ≠ g := fun e => by subst e; rw [show w.heap[k]? = _ from h] at hk; cases hk; cases ho
    exact (setRow_other w g k l' hne).trans hk⟩
theorem keeps_below {n₀ : Nat} {w w' : World} (h : Below w.heap.size w w') (B : Nat) : KeepsFrom B w w' :=
  ⟨h.size, fun k o _ hk _ => (h.block k (Array.getElem?_eq_some_iff.1 hk).1).trans hk⟩
theorem loc_put {w0 W : World} {bs : List Bl} (L : Loc w0 W bs []) {D : Nat} {o o' : Obj} (hD : w0.heap.size ≤ D) (hK : W.heap[D]? = some o) (ho : o.isCells = false) : Loc w0 (W.putObj D o') bs [] :=
  loc_own hD L (grownBy_putObj' W D o') (fun r e => by cases e; exact ⟨Nat.le_refl _, o, hK, ho⟩)
end Go.Proofs.Ytlaejiephpmniaa
