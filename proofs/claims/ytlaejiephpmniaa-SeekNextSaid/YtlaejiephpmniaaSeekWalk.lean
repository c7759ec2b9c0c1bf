/-
  A step of a seek that began with nothing else in its operation; where it begins; the leaves that aren't hinted to be full. Conditions: a block that may be.
-/
import Derived.Test.YtlaejiephpmniaaSeekFits
import Derived.Test.YtlaejiephpmniaaSeekRun
namespace Go.Proofs.Ytlaejiephpmniaa
open Go.RowKit
set_option linter.unusedVariables false
theorem IS.emp {k : IntKind} {lo : Nat} {w : World} {A : Option Addr} {n c : Nat} (h : IS k lo w A n c []) (lo' : Nat) (w' : World) : IS k lo' w' A n c [] := by
  have := h.len
  simp at this
  exact ⟨h.len, h.cap, h.most, h.nil_, fun hn => absurd hn (by omega)⟩
/-- All lists of the operation are empty. -/
def EmpL (h : Hd) : Prop := ∀ lo w, Lists lo w h ⟨[], [], [], []⟩
theorem EmpL.of {lo : Nat} {w : World} {h : Hd} (H : Lists lo w h ⟨[], [], [], []⟩) : EmpL h := fun lo' w' => ⟨H.i0.emp lo' w', H.i1.emp lo' w', H.i2.emp lo' w', H.i3.emp lo' w'⟩
theorem EmpL.hd0 : EmpL hd0 := fun lo w => Lists.hd0 w
theorem sstep_run {w : World} {a M m d ns hd k tt : Nat} {p wo qu tr : Int} {A B : Option Addr} {n c : Nat} {ys : List Nat} {h : Hd} {s : Sc} (ha : a < 4294967296) (hM : Much a p M) (h1 : 1 ≤ ns) (h2 : ns ≤ 64) (hhd : hd < ns) (hm : lv M + tv M < m) (hU : US w B m d ys) (hA : SkA M ns hd ys s k tt) (hE : EmpL h) :
    Calls Try.prog 11 #[.agg #[.int .u32 (a : Int), .int .i64 p, .slice A n c, .int .i64 (ns : Int), .int .i64 wo, .int .i64 qu, .int .i64 tr], .slice B m d, .agg (opv h s)] w fun e w' => ∃ h', e = .returned (.agg (opv h' (skS (ns : Int) M ys (sa M ns hd k) (sb M ns hd k) s))) ∧ EmpL h' ∧ Below w.heap.size w w' := by
  have hL := hE 0 w
  have z0 := hL.i0.len
  have z1 := hL.i1.len
  have z2 := hL.i2.len
  have z3 := hL.i3.len
  simp at z0 z1 z2 z3
  have ht := hA.ht
  have ht2 := tv_le hM.most
  have := sstep_any (w := w) (lo := 0) (M := M) (ns := ns) (hd := hd) (k := k) (tt := tt) (wo := wo) (qu := qu) (tr := tr) (A := A) (n := n) (c := c) (l := ⟨[], [], [], []⟩) hL (by omega) (by omega) (by omega) (by omega) hU hm hA.hw hA.ph ha hM h1 h2 hA.sd hhd hA.so hA.hk hA.at' (by omega)
  refine this.mono ?_
  rintro e w' ⟨h', rfl, L', K⟩
  rw [skL_nil] at L'
  exact ⟨h', rfl, EmpL.of L', K⟩
theorem sk_start {M ns hd : Nat} {ys : List Nat} (hns : 1 ≤ ns) : SkA M ns hd ys ⟨0, 0, 0, 0, false, 1, (hd : Int), 0, 0, 0, 0, false, 0, 0, 0, 0⟩ 0 0 :=
  ⟨rfl, rfl, rfl, rfl, hns, Nat.zero_le _, by show 0 < _; omega, fun j hj => absurd hj (by omega), fun h => absurd rfl h⟩
theorem hd_of {X ns : Nat} (h : 1 ≤ ns) : ∃ hd : Nat, (X : Int) % (ns : Int) = (hd : Int) ∧ (X : Int).tmod (ns : Int) = (hd : Int) ∧ hd < ns :=
  ⟨X % ns, (Int.natCast_emod X ns).symm, by rw [Int.tmod_eq_emod_of_nonneg (by omega)]; exact (Int.natCast_emod X ns).symm, Nat.mod_lt _ h⟩
/-- Is a leaf below i not hinted to be full? -/
def anyF (M : Nat) (ys : List Nat) : Nat → Bool
  | 0 => false
  | i + 1 => anyF M ys i || !hf M ys i
theorem anyF_yes {M : Nat} {ys : List Nat} : ∀ {n i : Nat}, i < n → hf M ys i = false → anyF M ys n = true
  | n + 1, i, h, e => by
    unfold anyF
    by_cases hi : i = n
    · subst hi; rw [e]; simp
    · rw [anyF_yes (show i < n by omega) e]; rfl
theorem anyF_no {M : Nat} {ys : List Nat} : ∀ {n : Nat}, (∀ i, i < n → hf M ys i = true) → anyF M ys n = false
  | 0, _ => rfl
  | n + 1, h => by
    unfold anyF
    rw [anyF_no fun i hi => h i (by omega), h n (by omega)]; rfl
theorem anyF_next {M i : Nat} {ys : List Nat} {bf bh : Bool} (h1 : anyF M ys i = bf) (h2 : hf M ys i = bh) : anyF M ys (i + 1) = (bf || !bh) := by unfold anyF; rw [h1, h2]
theorem wf_u8' {a : Int} (h : (Lit.int .u8 a).wf = true) : ∃ X : Nat, a = X ∧ X < 256 := wf_u8 h
end Go.Proofs.Ytlaejiephpmniaa
