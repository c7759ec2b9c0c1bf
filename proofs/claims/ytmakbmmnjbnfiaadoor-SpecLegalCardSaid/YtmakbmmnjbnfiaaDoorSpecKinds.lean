/-
  The map that leads from each kind to the function that does it: made by the call, in memory of its own; what a look-up of a kind tells.
-/
import Derived.Test.YtmakbmmnjbnfiaaDoorSpecSame
import Derived.Maps.OwnOps
import Derived.Maps.OwnSet
namespace Go.Proofs.YtmakbmmnjbnfiaaDoor
open Go.RowKit
set_option linter.unusedVariables false
/-- How a function's value reads: by its number. -/
def fnElem : Value → Option (DataW Unit × List MemPlace)
  | .func (.func k) a b => if a.size = 0 ∧ b.size = 0 then some (.lit (.int .u64 (k : Nat)), []) else none
  | .nilFunc => some (.lit (.bool false), [])
  | _ => none
theorem fnElem_mk (k : Nat) : fnElem (.func (.func k) #[] #[]) = some (.lit (.int .u64 (k : Nat)), []) := by simp [fnElem]
theorem fnElem_inv {v : Value} {k : Nat} {ps : List MemPlace} (h : fnElem v = some (.lit (.int .u64 (k : Nat)), ps)) : v = .func (.func k) #[] #[] := by
  unfold fnElem at h
  split at h
  · split at h
    · rename_i g
      simp only [Option.some.injEq, Prod.mk.injEq, DataW.lit.injEq, Lit.int.injEq, true_and] at h
      obtain ⟨h1, _⟩ := h
      have h2 := Array.eq_empty_of_size_eq_zero g.1
      have h3 := Array.eq_empty_of_size_eq_zero g.2
      have h4 : _ = k := Int.ofNat.inj h1
      subst h2 h3 h4
      rfl
    · cases h
  · simp at h
  · cases h
theorem ikey_law : Maps.Keyed Tryd.prog 3 := Maps.int_keyed Tryd.underlying3
theorem ikey {k : Int} (h : (Lit.int .i64 k).wf = true) : keyOf Tryd.prog 3 (.int .i64 k) = some (.int .i64 k) := Maps.keyOf_int_mk Tryd.underlying3 h
theorem zero_fn (w : World) : (zeroValue 64).run Tryd.prog w = .ok .nilFunc w := by kernel_rfl
/-- An entry of a map's literal. -/
theorem wpList_insert_own {H : Type} {P : Program} (w : World) {ops : Array Oper} {rest : List Oper} {o : Oper} {a : Act} {Q : Exit → Act → World → Prop}
    (hg : o.guard = none) (m x v : Operand) (t : TypeId) (hop : o.op = Op.insert t m x v)
    (k e : TypeId) (K : Maps.Keyed P k) (ht : P.underlying t = some (.map k e)) (R : Value → Option (DataW H × List MemPlace)) (b n : Nat) (D : DataW H)
    (hm : a.eval m = .map (some b)) (hown : w.ownsMap P k R b n D) (hn : n < maxLen) (key val : Value) (kl : Lit) (hx : a.eval x = key) (hv : a.eval v = val) (hkey : keyOf P k key = some kl)
    (d : DataW H) (ps : List MemPlace) (hval : R val = some (d, ps))
    (hK : ∀ w', w'.ownsMap P k R b (n + 1) (D.put kl d) → w.grownBy w' (some b) → wpList P ops Q rest (a.put o.dst undef) w') :
    wpList P ops Q (o :: rest) a w := by
  refine wpList_plain hg fun K' hK' => ?_
  obtain ⟨w', hrun, r1, r2⟩ := hown.update K ht hn hkey hval
  unfold Oper.wp
  simp [execOp, hop, hm, hx, hv, hrun, Result.andThen]
  exact hK' _ _ (hK w' r1 r2)
def kD0 : DataW Unit := .map []
def kD1 : DataW Unit := kD0.put (.int .i64 1) (.lit (.int .u64 (49 : Nat)))
def kD2 : DataW Unit := kD1.put (.int .i64 2) (.lit (.int .u64 (50 : Nat)))
def kD3 : DataW Unit := kD2.put (.int .i64 3) (.lit (.int .u64 (51 : Nat)))
def kD4 : DataW Unit := kD3.put (.int .i64 4) (.lit (.int .u64 (52 : Nat)))
def kD5 : DataW Unit := kD4.put (.int .i64 5) (.lit (.int .u64 (53 : Nat)))
def kD6 : DataW Unit := kD5.put (.int .i64 6) (.lit (.int .u64 (54 : Nat)))
def kD7 : DataW Unit := kD6.put (.int .i64 7) (.lit (.int .u64 (55 : Nat)))
theorem kD0_map : Maps.IsMap kD0 := Maps.isMap_empty
theorem kD1_map : Maps.IsMap kD1 := kD0_map.put _ _
theorem kD2_map : Maps.IsMap kD2 := kD1_map.put _ _
theorem kD3_map : Maps.IsMap kD3 := kD2_map.put _ _
theorem kD4_map : Maps.IsMap kD4 := kD3_map.put _ _
theorem kD5_map : Maps.IsMap kD5 := kD4_map.put _ _
theorem kD6_map : Maps.IsMap kD6 := kD5_map.put _ _
theorem kD7_map : Maps.IsMap kD7 := kD6_map.put _ _
def fnOf (k : Int) : Nat := if k = 1 then 49 else if k = 2 then 50 else if k = 3 then 51 else if k = 4 then 52 else if k = 5 then 53 else if k = 6 then 54 else 55
theorem kkey (k : Int) (h : (Lit.int .i64 k).wf = true) : WideAt.IsKeyLit (.int .i64 k) := ikey_law.key (ikey h)
theorem kD_at {k : Int} (h1 : 1 ≤ k) (h2 : k ≤ 7) : kD7.atKey (.int .i64 k) (.lit (.bool false)) = .lit (.int .u64 (fnOf k : Nat)) := by
  obtain rfl | rfl | rfl | rfl | rfl | rfl | rfl : k = 1 ∨ k = 2 ∨ k = 3 ∨ k = 4 ∨ k = 5 ∨ k = 6 ∨ k = 7 := by omega
  · have hk := kkey 1 (by decide)
    rw [show kD7 = kD6.put (.int .i64 7) (.lit (.int .u64 (55 : Nat))) from rfl, Maps.atKey_put_other (by simp)]
    rw [show kD6 = kD5.put (.int .i64 6) (.lit (.int .u64 (54 : Nat))) from rfl, Maps.atKey_put_other (by simp)]
    rw [show kD5 = kD4.put (.int .i64 5) (.lit (.int .u64 (53 : Nat))) from rfl, Maps.atKey_put_other (by simp)]
    rw [show kD4 = kD3.put (.int .i64 4) (.lit (.int .u64 (52 : Nat))) from rfl, Maps.atKey_put_other (by simp)]
    rw [show kD3 = kD2.put (.int .i64 3) (.lit (.int .u64 (51 : Nat))) from rfl, Maps.atKey_put_other (by simp)]
    rw [show kD2 = kD1.put (.int .i64 2) (.lit (.int .u64 (50 : Nat))) from rfl, Maps.atKey_put_other (by simp)]
    rw [show kD1 = kD0.put (.int .i64 1) (.lit (.int .u64 (49 : Nat))) from rfl, Maps.atKey_put_same kD0_map hk]
    rfl
  · have hk := kkey 2 (by decide)
    rw [show kD7 = kD6.put (.int .i64 7) (.lit (.int .u64 (55 : Nat))) from rfl, Maps.atKey_put_other (by simp)]
    rw [show kD6 = kD5.put (.int .i64 6) (.lit (.int .u64 (54 : Nat))) from rfl, Maps.atKey_put_other (by simp)]
    rw [show kD5 = kD4.put (.int .i64 5) (.lit (.int .u64 (53 : Nat))) from rfl, Maps.atKey_put_other (by simp)]
    rw [show kD4 = kD3.put (.int .i64 4) (.lit (.int .u64 (52 : Nat))) from rfl, Maps.atKey_put_other (by simp)]
    rw [show kD3 = kD2.put (.int .i64 3) (.lit (.int .u64 (51 : Nat))) from rfl, Maps.atKey_put_other (by simp)]
    rw [show kD2 = kD1.put (.int .i64 2) (.lit (.int .u64 (50 : Nat))) from rfl, Maps.atKey_put_same kD1_map hk]
    rfl
  · have hk := kkey 3 (by decide)
    rw [show kD7 = kD6.put (.int .i64 7) (.lit (.int .u64 (55 : Nat))) from rfl, Maps.atKey_put_other (by simp)]
    rw [show kD6 = kD5.put (.int .i64 6) (.lit (.int .u64 (54 : Nat))) from rfl, Maps.atKey_put_other (by simp)]
    rw [show kD5 = kD4.put (.int .i64 5) (.lit (.int .u64 (53 : Nat))) from rfl, Maps.atKey_put_other (by simp)]
    rw [show kD4 = kD3.put (.int .i64 4) (.lit (.int .u64 (52 : Nat))) from rfl, Maps.atKey_put_other (by simp)]
    rw [show kD3 = kD2.put (.int .i64 3) (.lit (.int .u64 (51 : Nat))) from rfl, Maps.atKey_put_same kD2_map hk]
    rfl
  · have hk := kkey 4 (by decide)
    rw [show kD7 = kD6.put (.int .i64 7) (.lit (.int .u64 (55 : Nat))) from rfl, Maps.atKey_put_other (by simp)]
    rw [show kD6 = kD5.put (.int .i64 6) (.lit (.int .u64 (54 : Nat))) from rfl, Maps.atKey_put_other (by simp)]
    rw [show kD5 = kD4.put (.int .i64 5) (.lit (.int .u64 (53 : Nat))) from rfl, Maps.atKey_put_other (by simp)]
    rw [show kD4 = kD3.put (.int .i64 4) (.lit (.int .u64 (52 : Nat))) from rfl, Maps.atKey_put_same kD3_map hk]
    rfl
  · have hk := kkey 5 (by decide)
    rw [show kD7 = kD6.put (.int .i64 7) (.lit (.int .u64 (55 : Nat))) from rfl, Maps.atKey_put_other (by simp)]
    rw [show kD6 = kD5.put (.int .i64 6) (.lit (.int .u64 (54 : Nat))) from rfl, Maps.atKey_put_other (by simp)]
    rw [show kD5 = kD4.put (.int .i64 5) (.lit (.int .u64 (53 : Nat))) from rfl, Maps.atKey_put_same kD4_map hk]
    rfl
  · have hk := kkey 6 (by decide)
    rw [show kD7 = kD6.put (.int .i64 7) (.lit (.int .u64 (55 : Nat))) from rfl, Maps.atKey_put_other (by simp)]
    rw [show kD6 = kD5.put (.int .i64 6) (.lit (.int .u64 (54 : Nat))) from rfl, Maps.atKey_put_same kD5_map hk]
    rfl
  · have hk := kkey 7 (by decide)
    rw [show kD7 = kD6.put (.int .i64 7) (.lit (.int .u64 (55 : Nat))) from rfl, Maps.atKey_put_same kD6_map hk]
    rfl
/-- The map in memory. -/
def Kmap (w : World) (gm : Nat) : Prop := w.ownsMap Tryd.prog 3 fnElem gm 7 kD7
theorem Kmap.look {w : World} {gm : Nat} (h : Kmap w gm) {k : Int} (h1 : 1 ≤ k) (h2 : k ≤ 7) : (Instr.lookup 65 (.map (some gm)) (.int .i64 k) false).run Tryd.prog w = .ok (.func (.func (fnOf k)) #[] #[]) w := by
  have hw : (Lit.int .i64 k).wf = true := by simp [Lit.wf, IntKind.min, IntKind.max, IntKind.bits, IntKind.signed]; omega
  obtain ⟨v, ps, hrun, hv⟩ := World.ownsMap.lookup h ikey_law Tryd.underlying65 (zero_fn w) (zd := .lit (.bool false)) (zp := []) rfl (ikey hw)
  rw [kD_at h1 h2] at hv
  rw [hrun, fnElem_inv hv]
theorem kinds_any (w : World) :
    Calls Tryd.prog 38 #[] w fun e w' => ∃ gm, e = .returned (.map (some gm)) ∧ Kmap w' gm ∧ Below w.heap.size w w' := by
  have hmm := @run_makeMap Tryd.prog
  have O0 := World.ownsMap_made w Tryd.prog 3 fnElem
  have K0 := below_alloc w (.map #[] 0)
  have hgb : w.heap.size ≤ w.heap.size := Nat.le_refl _
  go_enter Tryd.func38, Tryd.ntmps38
  obtain ⟨w1, H1, O1, G1⟩ := O0.update ikey_law Tryd.underlying65 (by unfold maxLen; omega) (ikey (k := 1) (by decide)) (fnElem_mk 49)
  obtain ⟨w2, H2, O2, G2⟩ := O1.update ikey_law Tryd.underlying65 (by unfold maxLen; omega) (ikey (k := 2) (by decide)) (fnElem_mk 50)
  obtain ⟨w3, H3, O3, G3⟩ := O2.update ikey_law Tryd.underlying65 (by unfold maxLen; omega) (ikey (k := 3) (by decide)) (fnElem_mk 51)
  obtain ⟨w4, H4, O4, G4⟩ := O3.update ikey_law Tryd.underlying65 (by unfold maxLen; omega) (ikey (k := 4) (by decide)) (fnElem_mk 52)
  obtain ⟨w5, H5, O5, G5⟩ := O4.update ikey_law Tryd.underlying65 (by unfold maxLen; omega) (ikey (k := 5) (by decide)) (fnElem_mk 53)
  obtain ⟨w6, H6, O6, G6⟩ := O5.update ikey_law Tryd.underlying65 (by unfold maxLen; omega) (ikey (k := 6) (by decide)) (fnElem_mk 54)
  obtain ⟨w7, H7, O7, G7⟩ := O6.update ikey_law Tryd.underlying65 (by unfold maxLen; omega) (ikey (k := 7) (by decide)) (fnElem_mk 55)
  go_wp2
  have K1 := K0.grown G1 (Nat.le_trans (Nat.le_refl _) K0.size) (by intro j hj; injection hj with hj; omega)
  have K2 := K1.grown G2 (Nat.le_trans (Nat.le_refl _) K1.size) (by intro j hj; injection hj with hj; omega)
  have K3 := K2.grown G3 (Nat.le_trans (Nat.le_refl _) K2.size) (by intro j hj; injection hj with hj; omega)
  have K4 := K3.grown G4 (Nat.le_trans (Nat.le_refl _) K3.size) (by intro j hj; injection hj with hj; omega)
  have K5 := K4.grown G5 (Nat.le_trans (Nat.le_refl _) K4.size) (by intro j hj; injection hj with hj; omega)
  have K6 := K5.grown G6 (Nat.le_trans (Nat.le_refl _) K5.size) (by intro j hj; injection hj with hj; omega)
  have K7 := K6.grown G7 (Nat.le_trans (Nat.le_refl _) K6.size) (by intro j hj; injection hj with hj; omega)
  go_ret
  exact ⟨_, rfl, O7, K7⟩
end Go.Proofs.YtmakbmmnjbnfiaaDoor
