/-
  Operations that go on, and steps of marking, as functions of numbers and lists. No program in it.
-/
import Derived.Test.YtafdlofmgefdoaaHintOwn
namespace Go.Proofs.Ytafdlofmgefdoaa
/-- Is there a further address? -/
def fur (n : Nat) (s : Sc) : Bool := decide (s.kind = 4 ∧ 0 ≤ s.item ∧ s.item + 1 < (n : Int))
/-- The offset of the i-th address. -/
def ofs (a : Nat) (xs : List Int) (i : Nat) : Nat := (gi xs i).toNat - a
/-- The operation, ended. -/
def ende (s : Sc) : Sc := ⟨s.kind, s.addr, s.err, s.aad, s.used, 0, s.shard, s.sought, s.leaf, s.bit, 0, false, 0, s.tries, s.item, s.stamp⟩
/-- The operation, at its next address. -/
def next_ (a : Nat) (xs : List Int) (s : Sc) : Sc := ⟨s.kind, s.addr, s.err, s.aad, s.used, 8, s.shard, s.sought, ((ofs a xs (s.item.toNat + 1) / 32 : Nat) : Int), ((ofs a xs (s.item.toNat + 1) % 32 : Nat) : Int), 0, false, 0, s.tries, s.item + 1, s.stamp⟩
/-- The operation, gone on. -/
def gon (a n : Nat) (xs : List Int) (s : Sc) : Sc := if fur n s = true then next_ a xs s else ende s
/-- Every address is the block's. -/
def InB (a M n : Nat) (xs : List Int) : Prop := ∀ i, i < n → ∃ x : Nat, gi xs i = (x : Int) ∧ a ≤ x ∧ x < a + M
/-- Does the operation go on, when its cell is done? -/
def ends_ (s : Sc) : Bool := decide (s.at_ ≠ 0) || (s.full && decide (s.word ≠ 18446744073709551615))
def root_ (s : Sc) : Sc := ⟨s.kind, s.addr, s.err, s.aad, s.used, 4, s.shard, s.sought, s.leaf, s.bit, s.word, s.full, 1, s.tries, s.item, s.stamp⟩
/-- The operation whose cell is done. -/
def dn (a n : Nat) (xs : List Int) (s : Sc) : Sc := if ends_ s = true then gon a n xs s else root_ s
def worded (s : Sc) (x : Nat) : Sc := ⟨s.kind, s.addr, s.err, s.aad, s.used, s.phase, s.shard, s.sought, s.leaf, s.bit, x, s.full, s.at_, s.tries, s.item, s.stamp⟩
def setp (s : Sc) : Sc := ⟨s.kind, s.addr, s.err, s.aad, s.used, 5, s.shard, s.sought, s.leaf, s.bit, s.word, s.full, s.at_, s.tries, s.item, s.stamp⟩
/-- The operation that read x in its cell. -/
def lk (a n : Nat) (xs : List Int) (s : Sc) (x b : Nat) : Sc := if x.testBit b = s.full then dn a n xs (worded s x) else setp (worded s x)
/-- The word, marked. -/
def mkd (x b : Nat) (f : Bool) : Nat := if f = true then setb x b else clrb x b
theorem mkd_lt {x b : Nat} (f : Bool) (hx : x < 18446744073709551616) (hb : b < 64) : mkd x b f < 18446744073709551616 := by
  unfold mkd; split
  · exact setb_lt hx hb
  · exact clrb_lt hx
/-- Which cell is marked, and which bit of it. -/
def hcel (M : Nat) (s : Sc) : Nat := if s.at_ = 0 then lv M + s.leaf.toNat / 64 else lv M + tv M
def bt (s : Sc) : Nat := if s.at_ = 0 then s.leaf.toNat % 64 else s.leaf.toNat / 64
/-- A step of marking: the cells, the operation. -/
def stC (M : Nat) (ys : List Nat) (s : Sc) : List Nat := if s.phase = 4 then ys else if gt ys (hcel M s) = s.word then ys.set (hcel M s) (mkd s.word (bt s) s.full) else ys
def stO (a M n : Nat) (xs : List Int) (ys : List Nat) (s : Sc) : Sc := if s.phase = 4 then lk a n xs s (gt ys (hcel M s)) (bt s) else dn a n xs (worded s (mkd s.word (bt s) s.full))
end Go.Proofs.Ytafdlofmgefdoaa

