/-
  Operations that give back, as functions of numbers; what a step answers while blocks of its caller stand. No program in it.
-/
import Derived.Test.YtafdlofmgefdoaaRowLoc
namespace Go.Proofs.Ytafdlofmgefdoaa
open Go.RowKit
set_option linter.unusedVariables false
/-- Told an error: a batch has a list of them, another operation one. -/
def erI (k e x : Int) : Int := if k = 4 then e else x
def erS (s : Sc) (x : Int) : Sc := ⟨s.kind, s.addr, erI s.kind s.err x, s.aad, s.used, s.phase, s.shard, s.sought, s.leaf, s.bit, s.word, s.full, s.at_, s.tries, s.item, s.stamp⟩
def erE (s : Sc) (es : List Int) (x : Int) : List Int := if s.kind = 4 then es ++ [x] else es
def erL (s : Sc) (l : Ls) (x : Int) : Ls := ⟨l.rqs, l.ads, erE s l.ers x, l.ses⟩
/-- The bit is used: the word, to be swapped. -/
def useS (s : Sc) (x : Nat) : Sc := ⟨s.kind, s.addr, s.err, s.aad, s.used, 9, s.shard, s.sought, s.leaf, s.bit, x, s.full, s.at_, s.tries, s.item, s.stamp⟩
/-- The leaf is read again. -/
def rdS (s : Sc) : Sc := ⟨s.kind, s.addr, s.err, s.aad, s.used, 8, s.shard, s.sought, s.leaf, s.bit, 0, s.full, s.at_, s.tries, s.item, s.stamp⟩
/-- The leaf was full. -/
def emS (s : Sc) : Sc := ⟨s.kind, s.addr, s.err, s.aad, s.used, 4, s.shard, s.sought, s.leaf, s.bit, 0, false, 0, s.tries, s.item, s.stamp⟩
def freeS (a n : Nat) (xs : List Int) (s : Sc) : Sc := gon a n xs (erS s 6)
def hitS (a n : Nat) (xs : List Int) (s : Sc) : Sc := if fl s.word = true then emS (erS s 0) else gon a n xs (erS s 0)
def erO (s : Sc) (x : Int) : Sc := ⟨s.kind, s.addr, x, s.aad, s.used, s.phase, s.shard, s.sought, s.leaf, s.bit, s.word, s.full, s.at_, s.tries, s.item, s.stamp⟩
theorem erS_bat {s : Sc} {x : Int} (h : s.kind = 4) : erS s x = s := by unfold erS erI; rw [if_pos h]
theorem erS_one {s : Sc} {x : Int} (h : s.kind ≠ 4) : erS s x = erO s x := by unfold erS erI erO; rw [if_neg h]
theorem erE_bat {s : Sc} {es : List Int} {x : Int} (h : s.kind = 4) : erE s es x = es ++ [x] := if_pos h
theorem erE_one {s : Sc} {es : List Int} {x : Int} (h : s.kind ≠ 4) : erE s es x = es := if_neg h
/-- What told answers: the operation, with one error more; the row of the errors is the call's own still. -/
def RetTold (h : Hd) (s : Sc) (es : List Int) (lo gO : Nat) (w0 : World) (b0 b1 b2 b3 b5 : Bl) (fs : List Fct) (e : Ending) (w' : World) : Prop :=
  ∃ A2 n2 c2, e = .returned (.agg (opv ⟨h.A0, h.n0, h.c0, h.A1, h.n1, h.c1, A2, n2, c2, h.A3, h.n3, h.c3⟩ s)) ∧ n2 ≤ h.n2 + 1 ∧ Loc w0 w' [b0, b1, b2, b3, (gO, 42, opv ⟨h.A0, h.n0, h.c0, h.A1, h.n1, h.c1, A2, n2, c2, h.A3, h.n3, h.c3⟩ s), b5] (rF .i64 36 lo A2 n2 c2 es :: fs)
/-- What a step function answers, while its caller's blocks stand. -/
def RetLoc (lo : Nat) (n0 : Nat) (s : Sc) (l : Ls) (m : Nat) (ys : List Nat) (b : Bool) (B0 : Option Addr) (gR gO gH : Nat) (cf : Array Value) (w0 w : World) (e : Ending) (w' : World) : Prop :=
  ∃ A0 c0 A1 n1 c1 A2 n2 c2 A3 n3 c3 B d z, e = .returned (.tuple #[.slice B m d, .agg (opv ⟨A0, n0, c0, A1, n1, c1, A2, n2, c2, A3, n3, c3⟩ s), .bool b]) ∧ US w' B m d ys ∧ Lists lo w' ⟨A0, n0, c0, A1, n1, c1, A2, n2, c2, A3, n3, c3⟩ l ∧ (∀ k, k < w.heap.size → Apart k B0 → Apart k B) ∧ Loc w0 w' [(gR, 42, opv hd0 sc0), (gO, 42, z), (gH, 27, cf)] []
/-- What op.Own answers, the errors as a row of the call's own, apart from the other lists. -/
def RetOwnR (h : Hd) (s : Sc) (l : Ls) (w : World) (e : Ending) (w' : World) : Prop :=
  ∃ A0 c0 A1 c1 A2 c2 A3 c3, e = .returned (.agg (opv ⟨A0, h.n0, c0, A1, h.n1, c1, A2, h.n2, c2, A3, h.n3, c3⟩ s)) ∧ IS .u32 w.heap.size w' A0 h.n0 c0 l.rqs ∧ IS .u32 w.heap.size w' A1 h.n1 c1 l.ads ∧ Ri .i64 36 w' w.heap.size (.slice A2 h.n2 c2) h.n2 l.ers ∧ IS .u64 w.heap.size w' A3 h.n3 c3 l.ses
    ∧ SepF (.slice A2 h.n2 c2) (iF .u32 w.heap.size A0 h.n0 c0 l.rqs) ∧ SepF (.slice A2 h.n2 c2) (iF .u32 w.heap.size A1 h.n1 c1 l.ads) ∧ SepF (.slice A2 h.n2 c2) (iF .u64 w.heap.size A3 h.n3 c3 l.ses) ∧ Below w.heap.size w w'
end Go.Proofs.Ytafdlofmgefdoaa
