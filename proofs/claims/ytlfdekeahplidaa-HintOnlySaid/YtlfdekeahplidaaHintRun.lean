/-
  Steps of marking of an operation that asks for nothing, one behind the other: which cells and which operation come of each. Conditions: a configuration that may be, as many cells as there are, a leaf that there is.
-/
import Derived.Test.YtlfdekeahplidaaHintAwake
import Derived.Test.YtlfdekeahplidaaHintGuard
namespace Go.Proofs.Ytlfdekeahplidaa
open Go.RowKit
set_option linter.unusedVariables false
/-- The operation that marks a leaf. -/
def mk_ (ph : Int) (lf wd : Nat) (f : Bool) (at_ : Int) : Sc := ⟨0, 0, 0, 0, false, ph, 0, 0, (lf : Int), 0, wd, f, at_, 0, 0, 0⟩
section
variable {a M lf wd b : Nat} {ph at_ : Int} {f : Bool} {xs : List Int} {ys : List Nat}
theorem gon_mk : gon a 0 xs (mk_ ph lf wd f at_) = mk_ 0 lf 0 false 0 := if_neg (by simp [fur, mk_])
theorem dn_go (h : at_ ≠ 0 ∨ (f = true ∧ wd ≠ 18446744073709551615)) : dn a 0 xs (mk_ ph lf wd f at_) = mk_ 0 lf 0 false 0 := by
  unfold dn
  rw [if_pos (by unfold ends_ mk_; rcases h with h | h <;> simp [h]), gon_mk]
theorem dn_root (h : f = false ∨ wd = 18446744073709551615) : dn a 0 xs (mk_ ph lf wd f 0) = mk_ 4 lf wd f 1 := by
  unfold dn
  rw [if_neg (by unfold ends_ mk_; rcases h with h | h <;> simp [h])]
  rfl
theorem lk_yes {x : Nat} (h : x.testBit b = f) : lk a 0 xs (mk_ 4 lf wd f at_) x b = dn a 0 xs (mk_ 4 lf x f at_) := if_pos h
theorem lk_no {x : Nat} (h : x.testBit b ≠ f) : lk a 0 xs (mk_ 4 lf wd f at_) x b = mk_ 5 lf x f at_ := if_neg h
theorem cel_0 : hcel M (mk_ ph lf wd f 0) = lv M + lf / 64 := (cel0 rfl rfl).1
theorem bt_0 : bt (mk_ ph lf wd f 0) = lf % 64 := (cel0 (M := 0) rfl rfl).2
theorem cel_1 : hcel M (mk_ ph lf wd f 1) = lv M + tv M := (cel1 rfl rfl).1
theorem bt_1 : bt (mk_ ph lf wd f 1) = lf / 64 := (cel1 (M := 0) rfl rfl).2
/-- A mark is read: the top's, the root's. -/
theorem o4_0 : stO a M 0 xs ys (mk_ 4 lf wd f 0) = lk a 0 xs (mk_ 4 lf wd f 0) (gt ys (lv M + lf / 64)) (lf % 64) := by
  unfold stO; rw [if_pos (show (mk_ 4 lf wd f 0).phase = 4 from rfl), cel_0, bt_0]
theorem o4_1 : stO a M 0 xs ys (mk_ 4 lf wd f 1) = lk a 0 xs (mk_ 4 lf wd f 1) (gt ys (lv M + tv M)) (lf / 64) := by
  unfold stO; rw [if_pos (show (mk_ 4 lf wd f 1).phase = 4 from rfl), cel_1, bt_1]
theorem c4 : stC M ys (mk_ 4 lf wd f at_) = ys := if_pos rfl
theorem o5_0 : stO a M 0 xs ys (mk_ 5 lf wd f 0) = dn a 0 xs (mk_ 5 lf (mkd wd (lf % 64) f) f 0) := by
  unfold stO; rw [if_neg (by show ¬ (5 : Int) = 4; omega), bt_0]; rfl
theorem o5_1 : stO a M 0 xs ys (mk_ 5 lf wd f 1) = dn a 0 xs (mk_ 5 lf (mkd wd (lf / 64) f) f 1) := by
  unfold stO; rw [if_neg (by show ¬ (5 : Int) = 4; omega), bt_1]; rfl
theorem c5_0y (h : gt ys (lv M + lf / 64) = wd) : stC M ys (mk_ 5 lf wd f 0) = ys.set (lv M + lf / 64) (mkd wd (lf % 64) f) := by
  unfold stC; rw [if_neg (by show ¬ (5 : Int) = 4; omega), cel_0, bt_0]; exact if_pos h
theorem c5_0n (h : gt ys (lv M + lf / 64) ≠ wd) : stC M ys (mk_ 5 lf wd f 0) = ys := by
  unfold stC; rw [if_neg (by show ¬ (5 : Int) = 4; omega), cel_0, bt_0]; exact if_neg h
theorem c5_1y (h : gt ys (lv M + tv M) = wd) : stC M ys (mk_ 5 lf wd f 1) = ys.set (lv M + tv M) (mkd wd (lf / 64) f) := by
  unfold stC; rw [if_neg (by show ¬ (5 : Int) = 4; omega), cel_1, bt_1]; exact if_pos h
end
/-- A step of an operation that asks for nothing. -/
def RetB (m : Nat) (s : Sc) (ys : List Nat) (B0 : Option Addr) (w : World) (e : Ending) (w' : World) : Prop := ∃ A0 c0 A1 c1 A2 c2 A3 c3 B d, e = .returned (.tuple #[.slice B m d, .agg (opv ⟨A0, 0, c0, A1, 0, c1, A2, 0, c2, A3, 0, c3⟩ s)]) ∧ US w' B m d ys ∧ Lists w.heap.size w' ⟨A0, 0, c0, A1, 0, c1, A2, 0, c2, A3, 0, c3⟩ ⟨[], [], [], []⟩ ∧ (∀ k, k < w.heap.size → Apart k B0 → Apart k B) ∧ Below w.heap.size w w'
theorem stepB {w : World} {lo a M m d lf wd c0 c1 c2 c3 : Nat} {p sh wo qu tr ph at_ : Int} {A B A0 A1 A2 A3 : Option Addr} {n c : Nat} {ys ys' : List Nat} {f : Bool} {s' : Sc} (ha : a < 4294967296) (hM : Much a p M) (hmm : m = lv M + tv M + 1) (hlv : lf < lv M) (hw : wd < 18446744073709551616) (hat : at_ = 0 ∨ at_ = 1) (hph : ph = 4 ∨ ph = 5)
    (U : US w B m d ys) (L : Lists lo w ⟨A0, 0, c0, A1, 0, c1, A2, 0, c2, A3, 0, c3⟩ ⟨[], [], [], []⟩) (hO : stO a M 0 [] ys (mk_ ph lf wd f at_) = s') (hC : stC M ys (mk_ ph lf wd f at_) = ys') :
    Calls Try.prog 17 #[.agg #[.int .u32 a, .int .i64 p, .slice A n c, .int .i64 sh, .int .i64 wo, .int .i64 qu, .int .i64 tr], .slice B m d, .agg (opv ⟨A0, 0, c0, A1, 0, c1, A2, 0, c2, A3, 0, c3⟩ (mk_ ph lf wd f at_))] w (RetB m s' ys' B w) := by
  have h := step_any (h := ⟨A0, 0, c0, A1, 0, c1, A2, 0, c2, A3, 0, c3⟩) (s := mk_ ph lf wd f at_) (sh := sh) (wo := wo) (qu := qu) (tr := tr) (A := A) (n := n) (c := c) (xs := []) ha hM (by show 0 ≤ 65536; omega) L.i0 (fun i hi => absurd hi (by show ¬ i < 0; omega)) L (by show 0 ≤ 65536; omega) (by show 0 ≤ 65536; omega) (by show 0 ≤ 65536; omega) U hmm rfl hlv hat hph hw
  refine Calls.mono h ?_
  rintro e w' ⟨A0', c0', A1', c1', A2', c2', A3', c3', B', d', he, hU, hL, hA, K⟩
  exact ⟨A0', c0', A1', c1', A2', c2', A3', c3', B', d', hO ▸ he, hC ▸ hU, hL, hA, K⟩
theorem US.apart {w : World} {A : Option Addr} {n c k : Nat} {xs : List Nat} (h : US w A n c xs) (hn : 0 < n) (hk : w.heap.size ≤ k) : Apart k A := fun b o e => by
  obtain ⟨b', o', e', hlt, _⟩ := h.cells hn
  rw [e] at e'; cases e'; omega
end Go.Proofs.Ytlfdekeahplidaa
