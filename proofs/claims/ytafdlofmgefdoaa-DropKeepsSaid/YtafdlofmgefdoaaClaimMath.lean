/-
  Operations that claim, as functions of numbers; what a step answers. No program in it.
-/
import Derived.Test.YtafdlofmgefdoaaOpElse
namespace Go.Proofs.Ytafdlofmgefdoaa
open Go.RowKit
/-- A bit was found. -/
def fndS (s : Sc) (x b : Nat) : Sc := ⟨s.kind, s.addr, s.err, s.aad, s.used, 3, s.shard, s.sought, s.leaf, (b : Int), x, s.full, s.at_, s.tries, s.item, s.stamp⟩
/-- The leaf is read again. -/
def againS (s : Sc) : Sc := ⟨s.kind, s.addr, s.err, s.aad, s.used, if s.kind = 1 then 2 else 8, s.shard, s.sought, s.leaf, s.bit, 0, s.full, s.at_, s.tries, s.item, s.stamp⟩
/-- The bit is claimed: its address. -/
def adS (s : Sc) (y : Nat) : Sc := ⟨s.kind, s.addr, s.err, (y : Int), s.used, s.phase, s.shard, s.sought, s.leaf, s.bit, s.word, s.full, s.at_, s.tries, s.item, s.stamp⟩
/-- The claim is full. -/
def fullS (s : Sc) : Sc := ⟨s.kind, s.addr, s.err, s.aad, s.used, 4, s.shard, s.sought, s.leaf, s.bit, 0, true, 0, s.tries, s.item, s.stamp⟩
def lookS (sh : Int) (x : Nat) (s : Sc) : Sc := if fb x 32 = true then fndS s x (fi x 32) else if s.sought + 1 < sh then seekS s else firstS s
def lookL (sh : Int) (x : Nat) (s : Sc) (l : Ls) : Ls := if fb x 32 = true then l else if s.sought + 1 < sh then l else ⟨l.rqs, l.ads, l.ers, []⟩
/-- The address of the operation's bit. -/
def adr (a lf b : Nat) : Nat := (a + (32 * lf + b)) % 4294967296
def claimS (a n : Nat) (xs : List Int) (x : Nat) (s : Sc) : Sc :=
  if x = s.word then (if fl (clm s.word s.bit.toNat) = true then fullS (adS s (adr a s.leaf.toNat s.bit.toNat)) else gon a n xs (adS s (adr a s.leaf.toNat s.bit.toNat))) else againS s
def claimC (ys : List Nat) (s : Sc) : List Nat := if gt ys s.leaf.toNat = s.word then ys.set s.leaf.toNat (clm s.word s.bit.toNat) else ys
/-- What a step answers: cells that are new or those that were handed in, an operation, whether it took effect. -/
def RetStp (lo : Nat) (n0 : Nat) (s : Sc) (l : Ls) (m : Nat) (ys : List Nat) (b : Bool) (B0 : Option Addr) (w : World) (e : Ending) (w' : World) : Prop :=
  ∃ A0 c0 A1 n1 c1 A2 n2 c2 A3 n3 c3 B d, e = .returned (.tuple #[.slice B m d, .agg (opv ⟨A0, n0, c0, A1, n1, c1, A2, n2, c2, A3, n3, c3⟩ s), .bool b]) ∧ US w' B m d ys ∧ Lists lo w' ⟨A0, n0, c0, A1, n1, c1, A2, n2, c2, A3, n3, c3⟩ l ∧ (∀ k, k < w.heap.size → Apart k B0 → Apart k B) ∧ Below w.heap.size w w'
end Go.Proofs.Ytafdlofmgefdoaa

