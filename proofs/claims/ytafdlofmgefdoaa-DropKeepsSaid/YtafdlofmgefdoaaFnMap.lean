/-
  A map of function values made by the call, in memory of its own; what a look-up tells. No condition on the program.
-/
import Derived.Test.YtafdlofmgefdoaaLoc
import Derived.Maps.OwnOps
import Derived.Maps.OwnSet
namespace Go.Proofs.Ytafdlofmgefdoaa
open Go.RowKit
set_option linter.unusedVariables false
/-- How a function's value reads: by its number. -/
def fnElem : Value → Option (DataW Unit × List MemPlace)
  | .func (.func k) a b => if a.size = 0 ∧ b.size = 0 then some (.lit (.int .u64 (k : Nat)), []) else none
  | .nilFunc => some (.lit (.bool false), [])
  | _ => none
theorem fnElem_mk (k : Nat) : fnElem (.func (.func k) #[] #[]) = some (.lit (.int .u64 (k : Nat)), []) := by simp [fnElem]
theorem fnElem_inv {v : Value} {k : Nat} {ps : List MemPlace} (h : fnElem v = some (.lit (.int .u64 (k : Nat)), ps)) : v = .func (.func k) #[] #[] := by
  unfold fnElem at h
  split at h
  · split at h
    · rename_i g
      simp only [Option.some.injEq, Prod.mk.injEq, DataW.lit.injEq, Lit.int.injEq, true_and] at h
      obtain ⟨h1, _⟩ := h
      have h2 := Array.eq_empty_of_size_eq_zero g.1
      have h3 := Array.eq_empty_of_size_eq_zero g.2
      have h4 : _ = k := Int.ofNat.inj h1
      subst h2 h3 h4
      rfl
    · cases h
  · simp at h
  · cases h
theorem ikey_law : Maps.Keyed Try.prog 3 := Maps.int_keyed Try.underlying3
theorem ikey {k : Int} (h : (Lit.int .i64 k).wf = true) : keyOf Try.prog 3 (.int .i64 k) = some (.int .i64 k) := Maps.keyOf_int_mk Try.underlying3 h
theorem kkey (k : Int) (h : (Lit.int .i64 k).wf = true) : WideAt.IsKeyLit (.int .i64 k) := ikey_law.key (ikey h)
theorem wf_key {k : Int} (h1 : -9223372036854775808 ≤ k) (h2 : k ≤ 9223372036854775807) : (Lit.int .i64 k).wf = true := by
  simp [Lit.wf, IntKind.min, IntKind.max, IntKind.bits, IntKind.signed]; omega
/-- The map as read: keys and functions, the newest first. -/
def fD : List (Int × Nat) → DataW Unit
  | [] => .map []
  | p :: l => (fD l).put (.int .i64 p.1) (.lit (.int .u64 (p.2 : Nat)))
def fget : List (Int × Nat) → Int → Option Nat
  | [], _ => none
  | p :: l, k => if p.1 = k then some p.2 else fget l k
theorem fD_map : ∀ l : List (Int × Nat), Maps.IsMap (fD l)
  | [] => Maps.isMap_empty
  | p :: l => (fD_map l).put _ _
theorem fD_at {k : Int} (hk : (Lit.int .i64 k).wf = true) : ∀ {l : List (Int × Nat)} {f : Nat}, fget l k = some f → (fD l).atKey (.int .i64 k) (.lit (.bool false)) = .lit (.int .u64 (f : Nat)) ∧ Maps.has (fD l) (.int .i64 k) = true
  | [], f, h => by cases h
  | p :: l, f, h => by
    unfold fget at h
    by_cases e : p.1 = k
    · rw [if_pos e] at h
      injection h with h
      unfold fD
      rw [e, h]
      exact ⟨Maps.atKey_put_same (fD_map l) (kkey k hk) _ _, Maps.has_put_same (fD_map l) (kkey k hk) _⟩
    · rw [if_neg e] at h
      have hne : (Lit.int .i64 k) ≠ (Lit.int .i64 p.1) := fun h => e (by injection h with _ h; exact h.symm)
      unfold fD
      rw [Maps.atKey_put_other hne, Maps.has_put_other hne]
      exact fD_at hk h
theorem fD_no {k : Int} : ∀ {l : List (Int × Nat)}, fget l k = none → Maps.has (fD l) (.int .i64 k) = false
  | [], _ => rfl
  | p :: l, h => by
    unfold fget at h
    by_cases e : p.1 = k
    · rw [if_pos e] at h; cases h
    · rw [if_neg e] at h
      have hne : (Lit.int .i64 k) ≠ (Lit.int .i64 p.1) := fun h => e (by injection h with _ h; exact h.symm)
      unfold fD
      rw [Maps.has_put_other hne]
      exact fD_no h
/-- The map in memory. -/
def FMap (w : World) (gm : Nat) (l : List (Int × Nat)) : Prop := w.ownsMap Try.prog 3 fnElem gm l.length (fD l)
def mF (gm : Nat) (l : List (Int × Nat)) : Fct := ⟨fun w => FMap w gm l, fun b => b = gm⟩
theorem mF_ok (gm : Nat) (l : List (Int × Nat)) : (mF gm l).Ok :=
  ⟨fun w w' h hs hk => by
    have hlt := World.ownsMap.lt h
    obtain ⟨es, clock, hb, F, hs', hD⟩ := h
    exact ⟨es, clock, (hk gm hlt rfl).trans hb, F, hs', hD⟩, fun w b h e => by subst e; exact World.ownsMap.lt h⟩
theorem Loc.map_new {w0 w : World} {bs : List Bl} {fs : List Fct} (L : Loc w0 w bs fs) {gm lo : Nat} {l : List (Int × Nat)} (hl : ∀ i b, nth bs i = some b → b.1 < lo) (hg : lo ≤ gm) (h : FMap w gm l) : Loc w0 w bs (mF gm l :: fs) :=
  L.add _ h (mF_ok _ _) fun i b e e' => by have := hl i b e; have : b.1 = gm := e'; omega
theorem FMap.look {w : World} {gm : Nat} {l : List (Int × Nat)} (h : FMap w gm l) {mt et : TypeId} (ht : Try.prog.underlying mt = some (.map 3 et)) (hz : (zeroValue et).run Try.prog w = .ok .nilFunc w) {k : Int} {f : Nat} (hk : (Lit.int .i64 k).wf = true) (e : fget l k = some f) :
    (Instr.lookup mt (.map (some gm)) (.int .i64 k) true).run Try.prog w = .ok (.tuple #[.func (.func f) #[] #[], .bool true]) w := by
  obtain ⟨v, ps, hrun, hv⟩ := World.ownsMap.look_ok h ikey_law ht hz (zd := .lit (.bool false)) (zp := []) rfl (ikey hk)
  rw [(fD_at hk e).1] at hv
  rw [hrun, fnElem_inv hv, (fD_at hk e).2]
theorem FMap.look1 {w : World} {gm : Nat} {l : List (Int × Nat)} (h : FMap w gm l) {mt et : TypeId} (ht : Try.prog.underlying mt = some (.map 3 et)) (hz : (zeroValue et).run Try.prog w = .ok .nilFunc w) {k : Int} {f : Nat} (hk : (Lit.int .i64 k).wf = true) (e : fget l k = some f) :
    (Instr.lookup mt (.map (some gm)) (.int .i64 k) false).run Try.prog w = .ok (.func (.func f) #[] #[]) w := by
  obtain ⟨v, ps, hrun, hv⟩ := World.ownsMap.lookup h ikey_law ht hz (zd := .lit (.bool false)) (zp := []) rfl (ikey hk)
  rw [(fD_at hk e).1] at hv
  rw [hrun, fnElem_inv hv]
theorem FMap.put {w : World} {gm : Nat} {l : List (Int × Nat)} (h : FMap w gm l) {mt et : TypeId} (ht : Try.prog.underlying mt = some (.map 3 et)) (hn : l.length < 64) (k : Int) (f : Nat) (hk : (Lit.int .i64 k).wf = true) :
    ∃ w', (Instr.mapUpdate mt (.map (some gm)) (.int .i64 k) (.func (.func f) #[] #[])).run Try.prog w = .ok () w' ∧ FMap w' gm ((k, f) :: l) ∧ w.grownBy w' (some gm) :=
  World.ownsMap.update h ikey_law ht (by unfold maxLen; omega) (ikey hk) (fnElem_mk f)
end Go.Proofs.Ytafdlofmgefdoaa

