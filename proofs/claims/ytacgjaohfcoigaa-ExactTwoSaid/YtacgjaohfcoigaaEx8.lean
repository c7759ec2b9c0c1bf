/-
  What the functions that these laws call answer, and what follows of it; conditions: those that each theorem names. In this file: HintOwn, HintPure, HintFur, HintOn, HintRgoes, HintDone, HintGoes, HintSum, HintFind0, HintSwap.
-/
import Derived.Test.YtacgjaohfcoigaaEx7
import Derived.Deep.Cut
/-
  What hint.own answers: the operation, with four lists of its own. Conditions: at most 65536 items a list.
-/
namespace Go.Proofs.Ytacgjaohfcoigaa
set_option maxRecDepth 100000
open Go.RowKit
def RetOwn (h : Hd) (s : Sc) (l : Ls) (w : World) (e : Ending) (w' : World) : Prop := ∃ A0 c0 A1 c1 A2 c2 A3 c3, e = .returned (.agg (opv ⟨A0, h.n0, c0, A1, h.n1, c1, A2, h.n2, c2, A3, h.n3, c3⟩ s)) ∧ Lists w.heap.size w' ⟨A0, h.n0, c0, A1, h.n1, c1, A2, h.n2, c2, A3, h.n3, c3⟩ l ∧ Below w.heap.size w w'
set_option maxHeartbeats 1000000 in
theorem own_any {w : World} {lo : Nat} {h : Hd} {s : Sc} {l : Ls} (L : Lists lo w h l) (h0 : h.n0 ≤ 65536) (h1 : h.n1 ≤ 65536) (h2 : h.n2 ≤ 65536) (h3 : h.n3 ≤ 65536) :
    Calls Try.prog 37 #[.agg (opv h s)] w (RetOwn h s l w) := by
  go_enter Try.func37, Try.ntmps37
  go_upto_region 1 with (fail)
  have K := below_alloc w (.cells (opv h s) 44)
  have O : Bk (World.alloc (w) (.cells (opv h s) 44)) (World.heap (w)).size 44 (opv h s) := Bk.new _ _ _
  replace O := O.alloc (.cells #[.int .i64 0, .int .u32 0, .slice none 0 0, .int .i64 0, .int .u32 0, .bool false, .slice none 0 0, .slice none 0 0, .int .i64 0, .int .i64 0, .int .i64 0, .int .i64 0, .int .i64 0, .int .u64 0, .bool false, .slice none 0 0, .int .i64 0, .int .i64 0, .int .i64 0, .int .i64 0] 44)
  replace K := Below.then_ K (below_alloc _ (.cells #[.int .i64 0, .int .u32 0, .slice none 0 0, .int .i64 0, .int .u32 0, .bool false, .slice none 0 0, .slice none 0 0, .int .i64 0, .int .i64 0, .int .i64 0, .int .i64 0, .int .i64 0, .int .u64 0, .bool false, .slice none 0 0, .int .i64 0, .int .i64 0, .int .i64 0, .int .i64 0] 44))
  have R : Bk (World.alloc ((w).alloc (.cells (opv h s) 44)) (.cells #[.int .i64 0, .int .u32 0, .slice none 0 0, .int .i64 0, .int .u32 0, .bool false, .slice none 0 0, .slice none 0 0, .int .i64 0, .int .i64 0, .int .i64 0, .int .i64 0, .int .i64 0, .int .u64 0, .bool false, .slice none 0 0, .int .i64 0, .int .i64 0, .int .i64 0, .int .i64 0] 44)) (World.heap ((w).alloc (.cells (opv h s) 44))).size 44 (opv hd0 sc0) := Bk.new _ _ _
  try simp only [World.size_alloc] at O R
  generalize ((w).alloc (.cells (opv h s) 44)).alloc (.cells #[.int .i64 0, .int .u32 0, .slice none 0 0, .int .i64 0, .int .u32 0, .bool false, .slice none 0 0, .slice none 0 0, .int .i64 0, .int .i64 0, .int .i64 0, .int .i64 0, .int .i64 0, .int .u64 0, .bool false, .slice none 0 0, .int .i64 0, .int .i64 0, .int .i64 0, .int .i64 0] 44) = w1 at O R K ⊢
  obtain ⟨gR, hgR⟩ : ∃ g, g = w.heap.size + 1 := ⟨_, rfl⟩
  rw [← hgR] at R ⊢
  obtain ⟨gO, hgO⟩ : ∃ g, g = w.heap.size := ⟨_, rfl⟩
  rw [← hgO] at O ⊢
  have O_b : w.heap.size ≤ gO := by omega
  have R_b : w.heap.size ≤ gR := by omega
  have ne_O_R : gO ≠ gR := by omega
  clear hgO hgR
  have hlt := R.lt
  have O_2 := O.at_ (v := .slice h.A0 h.n0 h.c0) 2 rfl
  have O_z := O.lt
  go_wp2_with fail
  refine (clone32_any (L.i0.below K) h0).mono ?_
  have KS0 := K.size
  rintro e w2 ⟨A0, c0, rfl, I0, K'⟩
  clear O_2 O_z
  have lo0 : gO < w1.heap.size := O.lt
  have lr0 : gR < w1.heap.size := R.lt
  replace O := O.below K'
  replace R := R.below K'
  replace K := Below.then_ K K'
  clear K'
  have O_2 := O.at_ (v := .slice h.A0 h.n0 h.c0) 2 rfl
  have O_z := O.lt
  have O_f2 := O.fz 2
  go_upto_region 2 with (fail)
  replace R := R.far (p := ⟨gO, 2, none⟩) (Ne.symm ne_O_R) (.slice A0 h.n0 c0)
  replace O := O.set_ 2 (.slice A0 h.n0 c0)
  replace I0 := I0.set_low (p := ⟨gO, 2, none⟩) lo0 (.slice A0 h.n0 c0)
  replace K := K.setCell (p := ⟨gO, 2, none⟩) O_b (.slice A0 h.n0 c0)
  replace O : Bk ((w2).setCell ⟨gO, 2, none⟩ (.slice A0 h.n0 c0)) gO 44 (opv ⟨A0, h.n0, c0, h.A1, h.n1, h.c1, h.A2, h.n2, h.c2, h.A3, h.n3, h.c3⟩ s) := O
  clear O_2 O_z O_f2
  generalize (w2).setCell ⟨gO, 2, none⟩ (.slice A0 h.n0 c0) = w3 at O R I0 K ⊢
  have O_6 := O.at_ (v := .slice h.A1 h.n1 h.c1) 6 rfl
  have O_z := O.lt
  go_wp2_with fail
  refine (clone32_any (L.i1.below K) h1).mono ?_
  have KS1 := K.size
  rintro e w4 ⟨A1, c1, rfl, I1, K'⟩
  clear O_6 O_z
  have lo1 : gO < w3.heap.size := O.lt
  have lr1 : gR < w3.heap.size := R.lt
  replace O := O.below K'
  replace R := R.below K'
  replace I0 := I0.below K'
  replace K := Below.then_ K K'
  clear K'
  have O_6 := O.at_ (v := .slice h.A1 h.n1 h.c1) 6 rfl
  have O_z := O.lt
  have O_f6 := O.fz 6
  go_upto_region 3 with (fail)
  replace R := R.far (p := ⟨gO, 6, none⟩) (Ne.symm ne_O_R) (.slice A1 h.n1 c1)
  replace O := O.set_ 6 (.slice A1 h.n1 c1)
  replace I0 := I0.set_low (p := ⟨gO, 6, none⟩) lo0 (.slice A1 h.n1 c1)
  replace I1 := I1.set_low (p := ⟨gO, 6, none⟩) lo1 (.slice A1 h.n1 c1)
  replace K := K.setCell (p := ⟨gO, 6, none⟩) O_b (.slice A1 h.n1 c1)
  replace O : Bk ((w4).setCell ⟨gO, 6, none⟩ (.slice A1 h.n1 c1)) gO 44 (opv ⟨A0, h.n0, c0, A1, h.n1, c1, h.A2, h.n2, h.c2, h.A3, h.n3, h.c3⟩ s) := O
  clear O_6 O_z O_f6
  generalize (w4).setCell ⟨gO, 6, none⟩ (.slice A1 h.n1 c1) = w5 at O R I0 I1 K ⊢
  have O_7 := O.at_ (v := .slice h.A2 h.n2 h.c2) 7 rfl
  have O_z := O.lt
  go_wp2_with fail
  refine (cloneE_any (L.i2.below K) h2).mono ?_
  have KS2 := K.size
  rintro e w6 ⟨A2, c2, rfl, I2, K'⟩
  clear O_7 O_z
  have lo2 : gO < w5.heap.size := O.lt
  have lr2 : gR < w5.heap.size := R.lt
  replace O := O.below K'
  replace R := R.below K'
  replace I0 := I0.below K'
  replace I1 := I1.below K'
  replace K := Below.then_ K K'
  clear K'
  have O_7 := O.at_ (v := .slice h.A2 h.n2 h.c2) 7 rfl
  have O_z := O.lt
  have O_f7 := O.fz 7
  go_upto_region 4 with (fail)
  replace R := R.far (p := ⟨gO, 7, none⟩) (Ne.symm ne_O_R) (.slice A2 h.n2 c2)
  replace O := O.set_ 7 (.slice A2 h.n2 c2)
  replace I0 := I0.set_low (p := ⟨gO, 7, none⟩) lo0 (.slice A2 h.n2 c2)
  replace I1 := I1.set_low (p := ⟨gO, 7, none⟩) lo1 (.slice A2 h.n2 c2)
  replace I2 := I2.set_low (p := ⟨gO, 7, none⟩) lo2 (.slice A2 h.n2 c2)
  replace K := K.setCell (p := ⟨gO, 7, none⟩) O_b (.slice A2 h.n2 c2)
  replace O : Bk ((w6).setCell ⟨gO, 7, none⟩ (.slice A2 h.n2 c2)) gO 44 (opv ⟨A0, h.n0, c0, A1, h.n1, c1, A2, h.n2, c2, h.A3, h.n3, h.c3⟩ s) := O
  clear O_7 O_z O_f7
  generalize (w6).setCell ⟨gO, 7, none⟩ (.slice A2 h.n2 c2) = w7 at O R I0 I1 I2 K ⊢
  have O_15 := O.at_ (v := .slice h.A3 h.n3 h.c3) 15 rfl
  have O_z := O.lt
  go_wp2_with fail
  refine (clone64_any (L.i3.below K) h3).mono ?_
  have KS3 := K.size
  rintro e w8 ⟨A3, c3, rfl, I3, K'⟩
  clear O_15 O_z
  have lo3 : gO < w7.heap.size := O.lt
  have lr3 : gR < w7.heap.size := R.lt
  replace O := O.below K'
  replace R := R.below K'
  replace I0 := I0.below K'
  replace I1 := I1.below K'
  replace I2 := I2.below K'
  replace K := Below.then_ K K'
  clear K'
  have O_15 := O.at_ (v := .slice h.A3 h.n3 h.c3) 15 rfl
  have O_z := O.lt
  have O_f15 := O.fz 15
  go_upto_region 5 with (fail)
  replace R := R.far (p := ⟨gO, 15, none⟩) (Ne.symm ne_O_R) (.slice A3 h.n3 c3)
  replace O := O.set_ 15 (.slice A3 h.n3 c3)
  replace I0 := I0.set_low (p := ⟨gO, 15, none⟩) lo0 (.slice A3 h.n3 c3)
  replace I1 := I1.set_low (p := ⟨gO, 15, none⟩) lo1 (.slice A3 h.n3 c3)
  replace I2 := I2.set_low (p := ⟨gO, 15, none⟩) lo2 (.slice A3 h.n3 c3)
  replace I3 := I3.set_low (p := ⟨gO, 15, none⟩) lo3 (.slice A3 h.n3 c3)
  replace K := K.setCell (p := ⟨gO, 15, none⟩) O_b (.slice A3 h.n3 c3)
  replace O : Bk ((w8).setCell ⟨gO, 15, none⟩ (.slice A3 h.n3 c3)) gO 44 (opv ⟨A0, h.n0, c0, A1, h.n1, c1, A2, h.n2, c2, A3, h.n3, c3⟩ s) := O
  clear O_15 O_z O_f15
  generalize (w8).setCell ⟨gO, 15, none⟩ (.slice A3 h.n3 c3) = w9 at O R I0 I1 I2 I3 K ⊢
  go_wp2_with (first | (refine wpList_load_row rfl 44 (.tmp 1) rfl gO rfl _ _ (0, 0) _ O Try.underlying44 rfl op_sz ?_) | (refine wpList_store_row rfl 44 (.tmp 2) (.tmp 25) rfl gR _ rfl rfl _ _ R op_sz rfl (opv_one _ _) ?_))
  replace O := O.row_far ne_O_R (opv ⟨A0, h.n0, c0, A1, h.n1, c1, A2, h.n2, c2, A3, h.n3, c3⟩ s)
  replace R := R.row (opv ⟨A0, h.n0, c0, A1, h.n1, c1, A2, h.n2, c2, A3, h.n3, c3⟩ s)
  replace I0 := I0.set_row lr0 (opv ⟨A0, h.n0, c0, A1, h.n1, c1, A2, h.n2, c2, A3, h.n3, c3⟩ s)
  replace I1 := I1.set_row lr1 (opv ⟨A0, h.n0, c0, A1, h.n1, c1, A2, h.n2, c2, A3, h.n3, c3⟩ s)
  replace I2 := I2.set_row lr2 (opv ⟨A0, h.n0, c0, A1, h.n1, c1, A2, h.n2, c2, A3, h.n3, c3⟩ s)
  replace I3 := I3.set_row lr3 (opv ⟨A0, h.n0, c0, A1, h.n1, c1, A2, h.n2, c2, A3, h.n3, c3⟩ s)
  replace K := below_setRow K R_b (opv ⟨A0, h.n0, c0, A1, h.n1, c1, A2, h.n2, c2, A3, h.n3, c3⟩ s)
  generalize w9.setRow gR (opv ⟨A0, h.n0, c0, A1, h.n1, c1, A2, h.n2, c2, A3, h.n3, c3⟩ s) = w10 at O R I0 I1 I2 I3 K ⊢
  refine bodyPost_ret (v := .agg (opv ⟨A0, h.n0, c0, A1, h.n1, c1, A2, h.n2, c2, A3, h.n3, c3⟩ s)) ?_ rfl ?_
  · exact results_cell_row (fn := Try.f37) Try.results37 _ _ gR _ _ (0, 0) _ rfl R Try.underlying44 rfl op_sz
  exact ⟨_, _, _, _, _, _, _, _, rfl, ⟨I0.lower KS0, I1.lower KS1, I2.lower KS2, I3.lower KS3⟩, K⟩
end Go.Proofs.Ytacgjaohfcoigaa

/-
  Operations that go on, and steps of marking, as functions of numbers and lists. No program in it.
-/
namespace Go.Proofs.Ytacgjaohfcoigaa
set_option maxRecDepth 100000
/-- Is there a further address? -/
def fur (n : Nat) (s : Sc) : Bool := decide (s.kind = 4 ∧ 0 ≤ s.item ∧ s.item + 1 < (n : Int))
/-- The offset of the i-th address. -/
def ofs (a : Nat) (xs : List Int) (i : Nat) : Nat := (gi xs i).toNat - a
/-- The operation, ended. -/
def ende (s : Sc) : Sc := ⟨s.kind, s.addr, s.err, s.aad, s.used, 0, s.shard, s.sought, s.leaf, s.bit, 0, false, 0, s.tries, s.item, s.stamp⟩
/-- The operation, at its next address. -/
def next_ (a : Nat) (xs : List Int) (s : Sc) : Sc := ⟨s.kind, s.addr, s.err, s.aad, s.used, 8, s.shard, s.sought, ((ofs a xs (s.item.toNat + 1) / 32 : Nat) : Int), ((ofs a xs (s.item.toNat + 1) % 32 : Nat) : Int), 0, false, 0, s.tries, s.item + 1, s.stamp⟩
/-- The operation, gone on. -/
def gon (a n : Nat) (xs : List Int) (s : Sc) : Sc := if fur n s = true then next_ a xs s else ende s
/-- Every address is the block's. -/
def InB (a M n : Nat) (xs : List Int) : Prop := ∀ i, i < n → ∃ x : Nat, gi xs i = (x : Int) ∧ a ≤ x ∧ x < a + M
/-- Does the operation go on, when its cell is done? -/
def ends_ (s : Sc) : Bool := decide (s.at_ ≠ 0) || (s.full && decide (s.word ≠ 18446744073709551615))
def root_ (s : Sc) : Sc := ⟨s.kind, s.addr, s.err, s.aad, s.used, 4, s.shard, s.sought, s.leaf, s.bit, s.word, s.full, 1, s.tries, s.item, s.stamp⟩
/-- The operation whose cell is done. -/
def dn (a n : Nat) (xs : List Int) (s : Sc) : Sc := if ends_ s = true then gon a n xs s else root_ s
def worded (s : Sc) (x : Nat) : Sc := ⟨s.kind, s.addr, s.err, s.aad, s.used, s.phase, s.shard, s.sought, s.leaf, s.bit, x, s.full, s.at_, s.tries, s.item, s.stamp⟩
def setp (s : Sc) : Sc := ⟨s.kind, s.addr, s.err, s.aad, s.used, 5, s.shard, s.sought, s.leaf, s.bit, s.word, s.full, s.at_, s.tries, s.item, s.stamp⟩
/-- The operation that read x in its cell. -/
def lk (a n : Nat) (xs : List Int) (s : Sc) (x b : Nat) : Sc := if x.testBit b = s.full then dn a n xs (worded s x) else setp (worded s x)
/-- The word, marked. -/
def mkd (x b : Nat) (f : Bool) : Nat := if f = true then setb x b else clrb x b
theorem mkd_lt {x b : Nat} (f : Bool) (hx : x < 18446744073709551616) (hb : b < 64) : mkd x b f < 18446744073709551616 := by
  unfold mkd; split
  · exact setb_lt hx hb
  · exact clrb_lt hx
/-- Which cell is marked, and which bit of it. -/
def hcel (M : Nat) (s : Sc) : Nat := if s.at_ = 0 then lv M + s.leaf.toNat / 64 else lv M + tv M
def bt (s : Sc) : Nat := if s.at_ = 0 then s.leaf.toNat % 64 else s.leaf.toNat / 64
/-- A step of marking: the cells, the operation. -/
def stC (M : Nat) (ys : List Nat) (s : Sc) : List Nat := if s.phase = 4 then ys else if gt ys (hcel M s) = s.word then ys.set (hcel M s) (mkd s.word (bt s) s.full) else ys
def stO (a M n : Nat) (xs : List Int) (ys : List Nat) (s : Sc) : Sc := if s.phase = 4 then lk a n xs s (gt ys (hcel M s)) (bt s) else dn a n xs (worded s (mkd s.word (bt s) s.full))
end Go.Proofs.Ytacgjaohfcoigaa

/-
  What hint.further, hint.onward and the document's Goes answer of an operation: one operation, gone on. Conditions: at most 65536 addresses, all the block's; Item at most 65536.
-/
namespace Go.Proofs.Ytacgjaohfcoigaa
set_option maxRecDepth 100000
open Go.RowKit
def RetBo (b : Bool) (w : World) (e : Ending) (w' : World) : Prop := e = .returned (.bool b) ∧ Below w.heap.size w w'
def RetOp (h : Hd) (s : Sc) (w : World) (e : Ending) (w' : World) : Prop := e = .returned (.agg (opv h s)) ∧ Below w.heap.size w w'
theorem fur0 {w : World} {h : Hd} {s : Sc} (hn : h.n0 ≤ 65536) (h0 : s.kind ≠ 4) :
    Calls Try.prog 93 #[.agg (opv h s)] w (RetBo false w) := by
  rcases s with ⟨kind, addr, err, aad, used, phase, shard, sought, leaf, bit, word, full, at_, tries, item, stamp⟩
  rcases h with ⟨A0, n0, c0, A1, n1, c1, A2, n2, c2, A3, n3, c3⟩
  dsimp only at *
  have e0 : (kind == 4) = false := by simpa using h0
  clear h0
  go_enter Try.func93, Try.ntmps93
  go_upto_region 1 with (fail)
  have K := below_alloc w (.cells (opv ⟨A0, n0, c0, A1, n1, c1, A2, n2, c2, A3, n3, c3⟩ ⟨kind, addr, err, aad, used, phase, shard, sought, leaf, bit, word, full, at_, tries, item, stamp⟩) 44)
  have O : Bk (World.alloc (w) (.cells (opv ⟨A0, n0, c0, A1, n1, c1, A2, n2, c2, A3, n3, c3⟩ ⟨kind, addr, err, aad, used, phase, shard, sought, leaf, bit, word, full, at_, tries, item, stamp⟩) 44)) (World.heap (w)).size 44 (opv ⟨A0, n0, c0, A1, n1, c1, A2, n2, c2, A3, n3, c3⟩ ⟨kind, addr, err, aad, used, phase, shard, sought, leaf, bit, word, full, at_, tries, item, stamp⟩) := Bk.new _ _ _
  try simp only [World.size_alloc] at O
  generalize (w).alloc (.cells (opv ⟨A0, n0, c0, A1, n1, c1, A2, n2, c2, A3, n3, c3⟩ ⟨kind, addr, err, aad, used, phase, shard, sought, leaf, bit, word, full, at_, tries, item, stamp⟩) 44) = w1 at O K ⊢
  obtain ⟨gO, hgO⟩ : ∃ g, g = w.heap.size := ⟨_, rfl⟩
  rw [← hgO] at O ⊢
  have O_b : w.heap.size ≤ gO := by omega
  clear hgO
  have O_0 := O.at_ (v := .int .i64 (kind)) 0 rfl
  have O_18 := O.at_ (v := .int .i64 (item)) 18 rfl
  have O_2 := O.at_ (v := .slice A0 n0 c0) 2 rfl
  have O_z := O.lt
  go_wp2
  go_ret
  exact ⟨rfl, K⟩
theorem fur1 {w : World} {h : Hd} {s : Sc} (hn : h.n0 ≤ 65536) (h0 : s.kind = 4) (h1 : s.item < 0) :
    Calls Try.prog 93 #[.agg (opv h s)] w (RetBo false w) := by
  rcases s with ⟨kind, addr, err, aad, used, phase, shard, sought, leaf, bit, word, full, at_, tries, item, stamp⟩
  rcases h with ⟨A0, n0, c0, A1, n1, c1, A2, n2, c2, A3, n3, c3⟩
  dsimp only at *
  have e0 : (kind == 4) = true := by simpa using h0
  clear h0
  have e1 : decide (0 ≤ item) = false := by simp; omega
  clear h1
  go_enter Try.func93, Try.ntmps93
  go_upto_region 1 with (fail)
  have K := below_alloc w (.cells (opv ⟨A0, n0, c0, A1, n1, c1, A2, n2, c2, A3, n3, c3⟩ ⟨kind, addr, err, aad, used, phase, shard, sought, leaf, bit, word, full, at_, tries, item, stamp⟩) 44)
  have O : Bk (World.alloc (w) (.cells (opv ⟨A0, n0, c0, A1, n1, c1, A2, n2, c2, A3, n3, c3⟩ ⟨kind, addr, err, aad, used, phase, shard, sought, leaf, bit, word, full, at_, tries, item, stamp⟩) 44)) (World.heap (w)).size 44 (opv ⟨A0, n0, c0, A1, n1, c1, A2, n2, c2, A3, n3, c3⟩ ⟨kind, addr, err, aad, used, phase, shard, sought, leaf, bit, word, full, at_, tries, item, stamp⟩) := Bk.new _ _ _
  try simp only [World.size_alloc] at O
  generalize (w).alloc (.cells (opv ⟨A0, n0, c0, A1, n1, c1, A2, n2, c2, A3, n3, c3⟩ ⟨kind, addr, err, aad, used, phase, shard, sought, leaf, bit, word, full, at_, tries, item, stamp⟩) 44) = w1 at O K ⊢
  obtain ⟨gO, hgO⟩ : ∃ g, g = w.heap.size := ⟨_, rfl⟩
  rw [← hgO] at O ⊢
  have O_b : w.heap.size ≤ gO := by omega
  clear hgO
  have O_0 := O.at_ (v := .int .i64 (kind)) 0 rfl
  have O_18 := O.at_ (v := .int .i64 (item)) 18 rfl
  have O_2 := O.at_ (v := .slice A0 n0 c0) 2 rfl
  have O_z := O.lt
  go_wp2
  go_ret
  exact ⟨rfl, K⟩
theorem fur2 {w : World} {h : Hd} {s : Sc} (hn : h.n0 ≤ 65536) (h0 : s.kind = 4) (h1 : 0 ≤ s.item) (h2 : ¬ s.item + 1 < (h.n0 : Int)) :
    Calls Try.prog 93 #[.agg (opv h s)] w (RetBo false w) := by
  rcases s with ⟨kind, addr, err, aad, used, phase, shard, sought, leaf, bit, word, full, at_, tries, item, stamp⟩
  rcases h with ⟨A0, n0, c0, A1, n1, c1, A2, n2, c2, A3, n3, c3⟩
  dsimp only at *
  have e0 : (kind == 4) = true := by simpa using h0
  clear h0
  have e2 : decide (item < (n0 : Int) - 1) = false := by simp; omega
  clear h2
  go_enter Try.func93, Try.ntmps93
  go_upto_region 1 with (fail)
  have K := below_alloc w (.cells (opv ⟨A0, n0, c0, A1, n1, c1, A2, n2, c2, A3, n3, c3⟩ ⟨kind, addr, err, aad, used, phase, shard, sought, leaf, bit, word, full, at_, tries, item, stamp⟩) 44)
  have O : Bk (World.alloc (w) (.cells (opv ⟨A0, n0, c0, A1, n1, c1, A2, n2, c2, A3, n3, c3⟩ ⟨kind, addr, err, aad, used, phase, shard, sought, leaf, bit, word, full, at_, tries, item, stamp⟩) 44)) (World.heap (w)).size 44 (opv ⟨A0, n0, c0, A1, n1, c1, A2, n2, c2, A3, n3, c3⟩ ⟨kind, addr, err, aad, used, phase, shard, sought, leaf, bit, word, full, at_, tries, item, stamp⟩) := Bk.new _ _ _
  try simp only [World.size_alloc] at O
  generalize (w).alloc (.cells (opv ⟨A0, n0, c0, A1, n1, c1, A2, n2, c2, A3, n3, c3⟩ ⟨kind, addr, err, aad, used, phase, shard, sought, leaf, bit, word, full, at_, tries, item, stamp⟩) 44) = w1 at O K ⊢
  obtain ⟨gO, hgO⟩ : ∃ g, g = w.heap.size := ⟨_, rfl⟩
  rw [← hgO] at O ⊢
  have O_b : w.heap.size ≤ gO := by omega
  clear hgO
  have O_0 := O.at_ (v := .int .i64 (kind)) 0 rfl
  have O_18 := O.at_ (v := .int .i64 (item)) 18 rfl
  have O_2 := O.at_ (v := .slice A0 n0 c0) 2 rfl
  have O_z := O.lt
  go_wp2
  go_ret
  exact ⟨rfl, K⟩
theorem fur3 {w : World} {h : Hd} {s : Sc} (hn : h.n0 ≤ 65536) (h0 : s.kind = 4) (h1 : 0 ≤ s.item) (h2 : s.item + 1 < (h.n0 : Int)) :
    Calls Try.prog 93 #[.agg (opv h s)] w (RetBo true w) := by
  rcases s with ⟨kind, addr, err, aad, used, phase, shard, sought, leaf, bit, word, full, at_, tries, item, stamp⟩
  rcases h with ⟨A0, n0, c0, A1, n1, c1, A2, n2, c2, A3, n3, c3⟩
  dsimp only at *
  have e0 : (kind == 4) = true := by simpa using h0
  clear h0
  have e2 : decide (item < (n0 : Int) - 1) = true := by simp; omega
  clear h2
  go_enter Try.func93, Try.ntmps93
  go_upto_region 1 with (fail)
  have K := below_alloc w (.cells (opv ⟨A0, n0, c0, A1, n1, c1, A2, n2, c2, A3, n3, c3⟩ ⟨kind, addr, err, aad, used, phase, shard, sought, leaf, bit, word, full, at_, tries, item, stamp⟩) 44)
  have O : Bk (World.alloc (w) (.cells (opv ⟨A0, n0, c0, A1, n1, c1, A2, n2, c2, A3, n3, c3⟩ ⟨kind, addr, err, aad, used, phase, shard, sought, leaf, bit, word, full, at_, tries, item, stamp⟩) 44)) (World.heap (w)).size 44 (opv ⟨A0, n0, c0, A1, n1, c1, A2, n2, c2, A3, n3, c3⟩ ⟨kind, addr, err, aad, used, phase, shard, sought, leaf, bit, word, full, at_, tries, item, stamp⟩) := Bk.new _ _ _
  try simp only [World.size_alloc] at O
  generalize (w).alloc (.cells (opv ⟨A0, n0, c0, A1, n1, c1, A2, n2, c2, A3, n3, c3⟩ ⟨kind, addr, err, aad, used, phase, shard, sought, leaf, bit, word, full, at_, tries, item, stamp⟩) 44) = w1 at O K ⊢
  obtain ⟨gO, hgO⟩ : ∃ g, g = w.heap.size := ⟨_, rfl⟩
  rw [← hgO] at O ⊢
  have O_b : w.heap.size ≤ gO := by omega
  clear hgO
  have O_0 := O.at_ (v := .int .i64 (kind)) 0 rfl
  have O_18 := O.at_ (v := .int .i64 (item)) 18 rfl
  have O_2 := O.at_ (v := .slice A0 n0 c0) 2 rfl
  have O_z := O.lt
  go_wp2
  go_ret
  exact ⟨rfl, K⟩
theorem further_any {w : World} {h : Hd} {s : Sc} (hn : h.n0 ≤ 65536) :
    Calls Try.prog 93 #[.agg (opv h s)] w (RetBo (fur h.n0 s) w) := by
  by_cases h0 : s.kind = 4
  · by_cases h1 : 0 ≤ s.item
    · by_cases h2 : s.item + 1 < (h.n0 : Int)
      · have e : fur h.n0 s = true := by unfold fur; simp [h0, h1, h2]
        rw [e]; exact fur3 hn h0 h1 h2
      · have e : fur h.n0 s = false := by unfold fur; simp [h2]
        rw [e]; exact fur2 hn h0 h1 h2
    · have e : fur h.n0 s = false := by unfold fur; simp [h1]
      rw [e]; exact fur1 hn h0 (by omega)
  · have e : fur h.n0 s = false := by unfold fur; simp [h0]
    rw [e]; exact fur0 hn h0
end Go.Proofs.Ytacgjaohfcoigaa

/-
  What hint.onward and the document's Goes answer of an operation: the same, gone on. Conditions: at most 65536 addresses, all the block's; Item at most 65536.
-/
namespace Go.Proofs.Ytacgjaohfcoigaa
set_option maxRecDepth 100000
open Go.RowKit
section
variable {w : World} {lo a M : Nat} {p sh wo qu tr : Int} {A : Option Addr} {n c : Nat} {xs : List Int} {h : Hd} {s : Sc}
set_option maxHeartbeats 1000000 in
theorem onward_end (hn : h.n0 ≤ 65536) (hf : fur h.n0 s = false) :
    Calls Try.prog 87 #[.agg #[.int .u32 a, .int .i64 p, .slice A n c, .int .i64 sh, .int .i64 wo, .int .i64 qu, .int .i64 tr], .agg (opv h s)] w (RetOp h (ende s) w) := by
  rcases s with ⟨kind, addr, err, aad, used, phase, shard, sought, leaf, bit, word, full, at_, tries, item, stamp⟩
  rcases h with ⟨A0, n0, c0, A1, n1, c1, A2, n2, c2, A3, n3, c3⟩
  dsimp only at *
  have T := fun w => Lib.hid (hf ▸ further_any (w := w) (h := ⟨A0, n0, c0, A1, n1, c1, A2, n2, c2, A3, n3, c3⟩) (s := ⟨kind, addr, err, aad, used, 0, shard, sought, leaf, bit, 0, false, 0, tries, item, stamp⟩) hn)
  clear hf
  go_enter Try.func87, Try.ntmps87
  go_upto_region 1 with (fail)
  have K := below_alloc w (.cells #[.int .u32 a, .int .i64 p, .slice A n c, .int .i64 sh, .int .i64 wo, .int .i64 qu, .int .i64 tr] 27)
  have H : Bk (World.alloc (w) (.cells #[.int .u32 a, .int .i64 p, .slice A n c, .int .i64 sh, .int .i64 wo, .int .i64 qu, .int .i64 tr] 27)) (World.heap (w)).size 27 (#[.int .u32 a, .int .i64 p, .slice A n c, .int .i64 sh, .int .i64 wo, .int .i64 qu, .int .i64 tr]) := Bk.new _ _ _
  replace H := H.alloc (.cells (opv ⟨A0, n0, c0, A1, n1, c1, A2, n2, c2, A3, n3, c3⟩ ⟨kind, addr, err, aad, used, phase, shard, sought, leaf, bit, word, full, at_, tries, item, stamp⟩) 44)
  replace K := Below.then_ K (below_alloc _ (.cells (opv ⟨A0, n0, c0, A1, n1, c1, A2, n2, c2, A3, n3, c3⟩ ⟨kind, addr, err, aad, used, phase, shard, sought, leaf, bit, word, full, at_, tries, item, stamp⟩) 44))
  have O : Bk (World.alloc ((w).alloc (.cells #[.int .u32 a, .int .i64 p, .slice A n c, .int .i64 sh, .int .i64 wo, .int .i64 qu, .int .i64 tr] 27)) (.cells (opv ⟨A0, n0, c0, A1, n1, c1, A2, n2, c2, A3, n3, c3⟩ ⟨kind, addr, err, aad, used, phase, shard, sought, leaf, bit, word, full, at_, tries, item, stamp⟩) 44)) (World.heap ((w).alloc (.cells #[.int .u32 a, .int .i64 p, .slice A n c, .int .i64 sh, .int .i64 wo, .int .i64 qu, .int .i64 tr] 27))).size 44 (opv ⟨A0, n0, c0, A1, n1, c1, A2, n2, c2, A3, n3, c3⟩ ⟨kind, addr, err, aad, used, phase, shard, sought, leaf, bit, word, full, at_, tries, item, stamp⟩) := Bk.new _ _ _
  replace H := H.alloc (.cells #[.int .i64 0, .int .u32 0, .slice none 0 0, .int .i64 0, .int .u32 0, .bool false, .slice none 0 0, .slice none 0 0, .int .i64 0, .int .i64 0, .int .i64 0, .int .i64 0, .int .i64 0, .int .u64 0, .bool false, .slice none 0 0, .int .i64 0, .int .i64 0, .int .i64 0, .int .i64 0] 44)
  replace O := O.alloc (.cells #[.int .i64 0, .int .u32 0, .slice none 0 0, .int .i64 0, .int .u32 0, .bool false, .slice none 0 0, .slice none 0 0, .int .i64 0, .int .i64 0, .int .i64 0, .int .i64 0, .int .i64 0, .int .u64 0, .bool false, .slice none 0 0, .int .i64 0, .int .i64 0, .int .i64 0, .int .i64 0] 44)
  replace K := Below.then_ K (below_alloc _ (.cells #[.int .i64 0, .int .u32 0, .slice none 0 0, .int .i64 0, .int .u32 0, .bool false, .slice none 0 0, .slice none 0 0, .int .i64 0, .int .i64 0, .int .i64 0, .int .i64 0, .int .i64 0, .int .u64 0, .bool false, .slice none 0 0, .int .i64 0, .int .i64 0, .int .i64 0, .int .i64 0] 44))
  have R : Bk (World.alloc (((w).alloc (.cells #[.int .u32 a, .int .i64 p, .slice A n c, .int .i64 sh, .int .i64 wo, .int .i64 qu, .int .i64 tr] 27)).alloc (.cells (opv ⟨A0, n0, c0, A1, n1, c1, A2, n2, c2, A3, n3, c3⟩ ⟨kind, addr, err, aad, used, phase, shard, sought, leaf, bit, word, full, at_, tries, item, stamp⟩) 44)) (.cells #[.int .i64 0, .int .u32 0, .slice none 0 0, .int .i64 0, .int .u32 0, .bool false, .slice none 0 0, .slice none 0 0, .int .i64 0, .int .i64 0, .int .i64 0, .int .i64 0, .int .i64 0, .int .u64 0, .bool false, .slice none 0 0, .int .i64 0, .int .i64 0, .int .i64 0, .int .i64 0] 44)) (World.heap (((w).alloc (.cells #[.int .u32 a, .int .i64 p, .slice A n c, .int .i64 sh, .int .i64 wo, .int .i64 qu, .int .i64 tr] 27)).alloc (.cells (opv ⟨A0, n0, c0, A1, n1, c1, A2, n2, c2, A3, n3, c3⟩ ⟨kind, addr, err, aad, used, phase, shard, sought, leaf, bit, word, full, at_, tries, item, stamp⟩) 44))).size 44 (opv hd0 sc0) := Bk.new _ _ _
  try simp only [World.size_alloc] at H O R
  generalize (((w).alloc (.cells #[.int .u32 a, .int .i64 p, .slice A n c, .int .i64 sh, .int .i64 wo, .int .i64 qu, .int .i64 tr] 27)).alloc (.cells (opv ⟨A0, n0, c0, A1, n1, c1, A2, n2, c2, A3, n3, c3⟩ ⟨kind, addr, err, aad, used, phase, shard, sought, leaf, bit, word, full, at_, tries, item, stamp⟩) 44)).alloc (.cells #[.int .i64 0, .int .u32 0, .slice none 0 0, .int .i64 0, .int .u32 0, .bool false, .slice none 0 0, .slice none 0 0, .int .i64 0, .int .i64 0, .int .i64 0, .int .i64 0, .int .i64 0, .int .u64 0, .bool false, .slice none 0 0, .int .i64 0, .int .i64 0, .int .i64 0, .int .i64 0] 44) = w1 at H O R K ⊢
  obtain ⟨gR, hgR⟩ : ∃ g, g = w.heap.size + 1 + 1 := ⟨_, rfl⟩
  rw [← hgR] at R ⊢
  obtain ⟨gO, hgO⟩ : ∃ g, g = w.heap.size + 1 := ⟨_, rfl⟩
  rw [← hgO] at O ⊢
  obtain ⟨gH, hgH⟩ : ∃ g, g = w.heap.size := ⟨_, rfl⟩
  rw [← hgH] at H ⊢
  have H_b : w.heap.size ≤ gH := by omega
  have O_b : w.heap.size ≤ gO := by omega
  have R_b : w.heap.size ≤ gR := by omega
  have ne_H_O : gH ≠ gO := by omega
  have ne_H_R : gH ≠ gR := by omega
  have ne_O_R : gO ≠ gR := by omega
  clear hgH hgO hgR
  have O_8 := O.at_ (v := .int .i64 (phase)) 8 rfl
  have O_13 := O.at_ (v := .int .u64 ((word : Nat) : Int)) 13 rfl
  have O_14 := O.at_ (v := .bool (full)) 14 rfl
  have O_16 := O.at_ (v := .int .i64 (at_)) 16 rfl
  have O_z := O.lt
  have O_f8 := O.fz 8
  have O_f13 := O.fz 13
  have O_f14 := O.fz 14
  have O_f16 := O.fz 16
  go_upto_region 2 with (fail)
  replace H := H.far (p := ⟨gO, 8, none⟩) ne_H_O (.int .i64 0)
  replace R := R.far (p := ⟨gO, 8, none⟩) (Ne.symm ne_O_R) (.int .i64 0)
  replace O := O.set_ 8 (.int .i64 0)
  replace K := K.setCell (p := ⟨gO, 8, none⟩) O_b (.int .i64 0)
  replace H := H.far (p := ⟨gO, 13, none⟩) ne_H_O (.int .u64 0)
  replace R := R.far (p := ⟨gO, 13, none⟩) (Ne.symm ne_O_R) (.int .u64 0)
  replace O := O.set_ 13 (.int .u64 0)
  replace K := K.setCell (p := ⟨gO, 13, none⟩) O_b (.int .u64 0)
  replace H := H.far (p := ⟨gO, 14, none⟩) ne_H_O (.bool false)
  replace R := R.far (p := ⟨gO, 14, none⟩) (Ne.symm ne_O_R) (.bool false)
  replace O := O.set_ 14 (.bool false)
  replace K := K.setCell (p := ⟨gO, 14, none⟩) O_b (.bool false)
  replace H := H.far (p := ⟨gO, 16, none⟩) ne_H_O (.int .i64 0)
  replace R := R.far (p := ⟨gO, 16, none⟩) (Ne.symm ne_O_R) (.int .i64 0)
  replace O := O.set_ 16 (.int .i64 0)
  replace K := K.setCell (p := ⟨gO, 16, none⟩) O_b (.int .i64 0)
  replace O : Bk (((((w1).setCell ⟨gO, 8, none⟩ (.int .i64 0)).setCell ⟨gO, 13, none⟩ (.int .u64 0)).setCell ⟨gO, 14, none⟩ (.bool false)).setCell ⟨gO, 16, none⟩ (.int .i64 0)) gO 44 (opv ⟨A0, n0, c0, A1, n1, c1, A2, n2, c2, A3, n3, c3⟩ ⟨kind, addr, err, aad, used, 0, shard, sought, leaf, bit, 0, false, 0, tries, item, stamp⟩) := O
  clear O_8 O_13 O_14 O_16 O_f8 O_f13 O_f14 O_f16 O_z
  generalize ((((w1).setCell ⟨gO, 8, none⟩ (.int .i64 0)).setCell ⟨gO, 13, none⟩ (.int .u64 0)).setCell ⟨gO, 14, none⟩ (.bool false)).setCell ⟨gO, 16, none⟩ (.int .i64 0) = w2 at H O R K ⊢
  go_wp2_with (refine wpList_load_row rfl 44 (.tmp 3) rfl gO rfl _ _ (0, 0) _ O Try.underlying44 rfl op_sz ?_)
  refine ((T _).out).mono ?_
  rintro e w3 ⟨rfl, K'⟩
  replace H := H.below K'
  replace O := O.below K'
  replace R := R.below K'
  replace K := Below.then_ K K'
  clear K'
  go_wp2_with (first | (refine wpList_load_row rfl 44 (.tmp 3) rfl gO rfl _ _ (0, 0) _ O Try.underlying44 rfl op_sz ?_) | (refine wpList_store_row rfl 44 (.tmp 4) (.tmp 14) rfl gR _ rfl rfl _ _ R op_sz rfl (opv_one _ _) ?_))
  replace H := H.row_far ne_H_R (opv ⟨A0, n0, c0, A1, n1, c1, A2, n2, c2, A3, n3, c3⟩ ⟨kind, addr, err, aad, used, 0, shard, sought, leaf, bit, 0, false, 0, tries, item, stamp⟩)
  replace O := O.row_far ne_O_R (opv ⟨A0, n0, c0, A1, n1, c1, A2, n2, c2, A3, n3, c3⟩ ⟨kind, addr, err, aad, used, 0, shard, sought, leaf, bit, 0, false, 0, tries, item, stamp⟩)
  replace R := R.row (opv ⟨A0, n0, c0, A1, n1, c1, A2, n2, c2, A3, n3, c3⟩ ⟨kind, addr, err, aad, used, 0, shard, sought, leaf, bit, 0, false, 0, tries, item, stamp⟩)
  replace K := below_setRow K R_b (opv ⟨A0, n0, c0, A1, n1, c1, A2, n2, c2, A3, n3, c3⟩ ⟨kind, addr, err, aad, used, 0, shard, sought, leaf, bit, 0, false, 0, tries, item, stamp⟩)
  generalize w3.setRow gR (opv ⟨A0, n0, c0, A1, n1, c1, A2, n2, c2, A3, n3, c3⟩ ⟨kind, addr, err, aad, used, 0, shard, sought, leaf, bit, 0, false, 0, tries, item, stamp⟩) = w4 at H O R K ⊢
  refine bodyPost_ret (v := .agg (opv ⟨A0, n0, c0, A1, n1, c1, A2, n2, c2, A3, n3, c3⟩ ⟨kind, addr, err, aad, used, 0, shard, sought, leaf, bit, 0, false, 0, tries, item, stamp⟩)) ?_ rfl ?_
  · exact results_cell_row (fn := Try.f87) Try.results87 _ _ gR _ _ (0, 0) _ rfl R Try.underlying44 rfl op_sz
  exact ⟨rfl, K⟩
set_option maxHeartbeats 1000000 in
theorem onward_more (ha : a < 4294967296) (hM : Much a p M) (hn : h.n0 ≤ 65536) (hI : IS .u32 lo w h.A0 h.n0 h.c0 xs) (hin : InB a M h.n0 xs) (hf : fur h.n0 s = true) :
    Calls Try.prog 87 #[.agg #[.int .u32 a, .int .i64 p, .slice A n c, .int .i64 sh, .int .i64 wo, .int .i64 qu, .int .i64 tr], .agg (opv h s)] w (RetOp h (next_ a xs s) w) := by
  have hf0 : s.kind = 4 ∧ 0 ≤ s.item ∧ s.item + 1 < (h.n0 : Int) := by simpa [fur] using hf
  rcases s with ⟨kind, addr, err, aad, used, phase, shard, sought, leaf, bit, word, full, at_, tries, item, stamp⟩
  rcases h with ⟨A0, n0, c0, A1, n1, c1, A2, n2, c2, A3, n3, c3⟩
  dsimp only at *
  obtain ⟨j, rfl⟩ : ∃ j : Nat, item = j := ⟨item.toNat, by omega⟩
  obtain ⟨x, hx, hx1, hx2⟩ := hin (j + 1) (by omega)
  obtain ⟨b, o, rfl, hb, hc⟩ := hI.get (j := j + 1) (by omega)
  rw [hx] at hc
  have hfit := hM.fits ha
  have hmo := hM.most
  obtain ⟨d, hd⟩ : ∃ d : Nat, d = x - a := ⟨_, rfl⟩
  obtain ⟨q, hq⟩ : ∃ q : Nat, q = d / 32 := ⟨_, rfl⟩
  obtain ⟨r, hr⟩ : ∃ r : Nat, r = d % 32 := ⟨_, rfl⟩
  have E : next_ a xs ⟨kind, addr, err, aad, used, phase, shard, sought, leaf, bit, word, full, at_, tries, (j : Int), stamp⟩ = ⟨kind, addr, err, aad, used, 8, shard, sought, (q : Int), (r : Int), 0, false, 0, tries, ((j : Int) + 1), stamp⟩ := by unfold next_ ofs; simp only [Int.toNat_natCast, hx]; rw [← hd, ← hq, ← hr]
  rw [E]
  clear E
  have T1 : ∀ w, Hid (Calls Try.prog 35 #[.agg #[.int .u32 a, .int .i64 p], .int .u32 x] w fun e w' => e = .returned (.tuple #[.int .i64 (d : Nat), .int .i64 0]) ∧ Below w.heap.size w w') := fun w => by rw [hd]; exact offset_in x (by omega) ha hM hx1 hx2
  have T2 : ∀ w, Hid (Calls Try.prog 36 #[.int .i64 (d : Nat)] w fun e w' => e = .returned (.tuple #[.int .i64 (q : Nat), .int .i64 (r : Nat)]) ∧ w = w') := fun w => by rw [hq, hr]; exact leaf_any d (by omega) w
  have T := fun w => Lib.hid (hf ▸ further_any (w := w) (h := ⟨(some ⟨b, o, none⟩), n0, c0, A1, n1, c1, A2, n2, c2, A3, n3, c3⟩) (s := ⟨kind, addr, err, aad, used, 0, shard, sought, leaf, bit, 0, false, 0, tries, (j : Int), stamp⟩) hn)
  have hj1 : j + 1 < n0 := by omega
  clear hf hin hd hq hr hx hx1 hx2 hI hf0
  go_enter Try.func87, Try.ntmps87
  go_upto_region 1 with (fail)
  have K := below_alloc w (.cells #[.int .u32 a, .int .i64 p, .slice A n c, .int .i64 sh, .int .i64 wo, .int .i64 qu, .int .i64 tr] 27)
  have H : Bk (World.alloc (w) (.cells #[.int .u32 a, .int .i64 p, .slice A n c, .int .i64 sh, .int .i64 wo, .int .i64 qu, .int .i64 tr] 27)) (World.heap (w)).size 27 (#[.int .u32 a, .int .i64 p, .slice A n c, .int .i64 sh, .int .i64 wo, .int .i64 qu, .int .i64 tr]) := Bk.new _ _ _
  replace H := H.alloc (.cells (opv ⟨(some ⟨b, o, none⟩), n0, c0, A1, n1, c1, A2, n2, c2, A3, n3, c3⟩ ⟨kind, addr, err, aad, used, phase, shard, sought, leaf, bit, word, full, at_, tries, (j : Int), stamp⟩) 44)
  replace K := Below.then_ K (below_alloc _ (.cells (opv ⟨(some ⟨b, o, none⟩), n0, c0, A1, n1, c1, A2, n2, c2, A3, n3, c3⟩ ⟨kind, addr, err, aad, used, phase, shard, sought, leaf, bit, word, full, at_, tries, (j : Int), stamp⟩) 44))
  have O : Bk (World.alloc ((w).alloc (.cells #[.int .u32 a, .int .i64 p, .slice A n c, .int .i64 sh, .int .i64 wo, .int .i64 qu, .int .i64 tr] 27)) (.cells (opv ⟨(some ⟨b, o, none⟩), n0, c0, A1, n1, c1, A2, n2, c2, A3, n3, c3⟩ ⟨kind, addr, err, aad, used, phase, shard, sought, leaf, bit, word, full, at_, tries, (j : Int), stamp⟩) 44)) (World.heap ((w).alloc (.cells #[.int .u32 a, .int .i64 p, .slice A n c, .int .i64 sh, .int .i64 wo, .int .i64 qu, .int .i64 tr] 27))).size 44 (opv ⟨(some ⟨b, o, none⟩), n0, c0, A1, n1, c1, A2, n2, c2, A3, n3, c3⟩ ⟨kind, addr, err, aad, used, phase, shard, sought, leaf, bit, word, full, at_, tries, (j : Int), stamp⟩) := Bk.new _ _ _
  replace H := H.alloc (.cells #[.int .i64 0, .int .u32 0, .slice none 0 0, .int .i64 0, .int .u32 0, .bool false, .slice none 0 0, .slice none 0 0, .int .i64 0, .int .i64 0, .int .i64 0, .int .i64 0, .int .i64 0, .int .u64 0, .bool false, .slice none 0 0, .int .i64 0, .int .i64 0, .int .i64 0, .int .i64 0] 44)
  replace O := O.alloc (.cells #[.int .i64 0, .int .u32 0, .slice none 0 0, .int .i64 0, .int .u32 0, .bool false, .slice none 0 0, .slice none 0 0, .int .i64 0, .int .i64 0, .int .i64 0, .int .i64 0, .int .i64 0, .int .u64 0, .bool false, .slice none 0 0, .int .i64 0, .int .i64 0, .int .i64 0, .int .i64 0] 44)
  replace K := Below.then_ K (below_alloc _ (.cells #[.int .i64 0, .int .u32 0, .slice none 0 0, .int .i64 0, .int .u32 0, .bool false, .slice none 0 0, .slice none 0 0, .int .i64 0, .int .i64 0, .int .i64 0, .int .i64 0, .int .i64 0, .int .u64 0, .bool false, .slice none 0 0, .int .i64 0, .int .i64 0, .int .i64 0, .int .i64 0] 44))
  have R : Bk (World.alloc (((w).alloc (.cells #[.int .u32 a, .int .i64 p, .slice A n c, .int .i64 sh, .int .i64 wo, .int .i64 qu, .int .i64 tr] 27)).alloc (.cells (opv ⟨(some ⟨b, o, none⟩), n0, c0, A1, n1, c1, A2, n2, c2, A3, n3, c3⟩ ⟨kind, addr, err, aad, used, phase, shard, sought, leaf, bit, word, full, at_, tries, (j : Int), stamp⟩) 44)) (.cells #[.int .i64 0, .int .u32 0, .slice none 0 0, .int .i64 0, .int .u32 0, .bool false, .slice none 0 0, .slice none 0 0, .int .i64 0, .int .i64 0, .int .i64 0, .int .i64 0, .int .i64 0, .int .u64 0, .bool false, .slice none 0 0, .int .i64 0, .int .i64 0, .int .i64 0, .int .i64 0] 44)) (World.heap (((w).alloc (.cells #[.int .u32 a, .int .i64 p, .slice A n c, .int .i64 sh, .int .i64 wo, .int .i64 qu, .int .i64 tr] 27)).alloc (.cells (opv ⟨(some ⟨b, o, none⟩), n0, c0, A1, n1, c1, A2, n2, c2, A3, n3, c3⟩ ⟨kind, addr, err, aad, used, phase, shard, sought, leaf, bit, word, full, at_, tries, (j : Int), stamp⟩) 44))).size 44 (opv hd0 sc0) := Bk.new _ _ _
  try simp only [World.size_alloc] at H O R
  generalize (((w).alloc (.cells #[.int .u32 a, .int .i64 p, .slice A n c, .int .i64 sh, .int .i64 wo, .int .i64 qu, .int .i64 tr] 27)).alloc (.cells (opv ⟨(some ⟨b, o, none⟩), n0, c0, A1, n1, c1, A2, n2, c2, A3, n3, c3⟩ ⟨kind, addr, err, aad, used, phase, shard, sought, leaf, bit, word, full, at_, tries, (j : Int), stamp⟩) 44)).alloc (.cells #[.int .i64 0, .int .u32 0, .slice none 0 0, .int .i64 0, .int .u32 0, .bool false, .slice none 0 0, .slice none 0 0, .int .i64 0, .int .i64 0, .int .i64 0, .int .i64 0, .int .i64 0, .int .u64 0, .bool false, .slice none 0 0, .int .i64 0, .int .i64 0, .int .i64 0, .int .i64 0] 44) = w1 at H O R K ⊢
  obtain ⟨gR, hgR⟩ : ∃ g, g = w.heap.size + 1 + 1 := ⟨_, rfl⟩
  rw [← hgR] at R ⊢
  obtain ⟨gO, hgO⟩ : ∃ g, g = w.heap.size + 1 := ⟨_, rfl⟩
  rw [← hgO] at O ⊢
  obtain ⟨gH, hgH⟩ : ∃ g, g = w.heap.size := ⟨_, rfl⟩
  rw [← hgH] at H ⊢
  have H_b : w.heap.size ≤ gH := by omega
  have O_b : w.heap.size ≤ gO := by omega
  have R_b : w.heap.size ≤ gR := by omega
  have ne_H_O : gH ≠ gO := by omega
  have ne_H_R : gH ≠ gR := by omega
  have ne_O_R : gO ≠ gR := by omega
  clear hgH hgO hgR
  have O_8 := O.at_ (v := .int .i64 (phase)) 8 rfl
  have O_13 := O.at_ (v := .int .u64 ((word : Nat) : Int)) 13 rfl
  have O_14 := O.at_ (v := .bool (full)) 14 rfl
  have O_16 := O.at_ (v := .int .i64 (at_)) 16 rfl
  have O_z := O.lt
  have O_f8 := O.fz 8
  have O_f13 := O.fz 13
  have O_f14 := O.fz 14
  have O_f16 := O.fz 16
  go_upto_region 2 with (fail)
  replace H := H.far (p := ⟨gO, 8, none⟩) ne_H_O (.int .i64 0)
  replace R := R.far (p := ⟨gO, 8, none⟩) (Ne.symm ne_O_R) (.int .i64 0)
  replace O := O.set_ 8 (.int .i64 0)
  replace K := K.setCell (p := ⟨gO, 8, none⟩) O_b (.int .i64 0)
  replace H := H.far (p := ⟨gO, 13, none⟩) ne_H_O (.int .u64 0)
  replace R := R.far (p := ⟨gO, 13, none⟩) (Ne.symm ne_O_R) (.int .u64 0)
  replace O := O.set_ 13 (.int .u64 0)
  replace K := K.setCell (p := ⟨gO, 13, none⟩) O_b (.int .u64 0)
  replace H := H.far (p := ⟨gO, 14, none⟩) ne_H_O (.bool false)
  replace R := R.far (p := ⟨gO, 14, none⟩) (Ne.symm ne_O_R) (.bool false)
  replace O := O.set_ 14 (.bool false)
  replace K := K.setCell (p := ⟨gO, 14, none⟩) O_b (.bool false)
  replace H := H.far (p := ⟨gO, 16, none⟩) ne_H_O (.int .i64 0)
  replace R := R.far (p := ⟨gO, 16, none⟩) (Ne.symm ne_O_R) (.int .i64 0)
  replace O := O.set_ 16 (.int .i64 0)
  replace K := K.setCell (p := ⟨gO, 16, none⟩) O_b (.int .i64 0)
  replace O : Bk (((((w1).setCell ⟨gO, 8, none⟩ (.int .i64 0)).setCell ⟨gO, 13, none⟩ (.int .u64 0)).setCell ⟨gO, 14, none⟩ (.bool false)).setCell ⟨gO, 16, none⟩ (.int .i64 0)) gO 44 (opv ⟨(some ⟨b, o, none⟩), n0, c0, A1, n1, c1, A2, n2, c2, A3, n3, c3⟩ ⟨kind, addr, err, aad, used, 0, shard, sought, leaf, bit, 0, false, 0, tries, (j : Int), stamp⟩) := O
  clear O_8 O_13 O_14 O_16 O_f8 O_f13 O_f14 O_f16 O_z
  generalize ((((w1).setCell ⟨gO, 8, none⟩ (.int .i64 0)).setCell ⟨gO, 13, none⟩ (.int .u64 0)).setCell ⟨gO, 14, none⟩ (.bool false)).setCell ⟨gO, 16, none⟩ (.int .i64 0) = w2 at H O R K ⊢
  go_wp2_with (refine wpList_load_row rfl 44 (.tmp 3) rfl gO rfl _ _ (0, 0) _ O Try.underlying44 rfl op_sz ?_)
  refine ((T _).out).mono ?_
  rintro e w3 ⟨rfl, K'⟩
  replace H := H.below K'
  replace O := O.below K'
  replace R := R.below K'
  replace K := Below.then_ K K'
  clear K'
  have O_8 := O.at_ (v := .int .i64 0) 8 rfl
  have O_18 := O.at_ (v := .int .i64 (j : Int)) 18 rfl
  have O_z := O.lt
  have O_f8 := O.fz 8
  have O_f18 := O.fz 18
  go_upto_region 5 with (fail)
  replace H := H.far (p := ⟨gO, 8, none⟩) ne_H_O (.int .i64 8)
  replace R := R.far (p := ⟨gO, 8, none⟩) (Ne.symm ne_O_R) (.int .i64 8)
  replace O := O.set_ 8 (.int .i64 8)
  replace K := K.setCell (p := ⟨gO, 8, none⟩) O_b (.int .i64 8)
  replace H := H.far (p := ⟨gO, 18, none⟩) ne_H_O (.int .i64 ((j : Int) + 1))
  replace R := R.far (p := ⟨gO, 18, none⟩) (Ne.symm ne_O_R) (.int .i64 ((j : Int) + 1))
  replace O := O.set_ 18 (.int .i64 ((j : Int) + 1))
  replace K := K.setCell (p := ⟨gO, 18, none⟩) O_b (.int .i64 ((j : Int) + 1))
  replace O : Bk (((w3).setCell ⟨gO, 8, none⟩ (.int .i64 8)).setCell ⟨gO, 18, none⟩ (.int .i64 ((j : Int) + 1))) gO 44 (opv ⟨(some ⟨b, o, none⟩), n0, c0, A1, n1, c1, A2, n2, c2, A3, n3, c3⟩ ⟨kind, addr, err, aad, used, 8, shard, sought, leaf, bit, 0, false, 0, tries, ((j : Int) + 1), stamp⟩) := O
  clear O_8 O_18 O_z O_f8 O_f18
  generalize ((w3).setCell ⟨gO, 8, none⟩ (.int .i64 8)).setCell ⟨gO, 18, none⟩ (.int .i64 ((j : Int) + 1)) = w4 at H O R K ⊢
  have e1 : IntKind.i64.wrap ((j : Int) + 1) = (j : Int) + 1 := IntWalk.i64_in _ (by omega)
  have e2 : ((j : Int) + 1).toNat = j + 1 := by omega
  have e3 : (0 : Int) ≤ (j : Int) + 1 := by omega
  have e4 : (j : Int) + 1 < (n0 : Int) := by omega
  refine wp_region_held_drew (S := fun w' => Below w4.heap.size w4 w') (by kernel_rfl) (Below.refl _ _).drew (fun hHeld => ?_)
  refine wpAnyH_take (i := 0) (oi := ⟨some 21, _, _, _, _, _⟩) (v := ?_) rfl (by kernel_rfl) (by kernel_rfl) (by kernel_rfl) (fun _ _ _ h => h) (Or.inl ⟨by rfl, ?_⟩) hHeld ?_
  rotate_left
  · intro ww hSw
    try dsimp only at hSw
    go_simp
    try with_reducible rfl
    try omega
  try simp only [Act.put, List.setIfInBounds_toArray, List.set_cons_zero, List.set_cons_succ]
  refine wpAnyH_take (i := 1) (oi := ⟨some 22, _, _, _, _, _⟩) (v := ?_) rfl (by kernel_rfl) (by kernel_rfl) (by kernel_rfl) (fun _ _ _ h => h) (Or.inl ⟨by rfl, ?_⟩) hHeld ?_
  rotate_left
  · intro ww hSw
    try dsimp only at hSw
    have H_0 := (H.below hSw).at_ (v := .int .u32 a) 0 rfl
    have H_1 := (H.below hSw).at_ (v := .int .i64 p) 1 rfl
    have O_2 := (O.below hSw).at_ (v := .slice (some ⟨b, o, none⟩) n0 c0) 2 rfl
    have O_18 := (O.below hSw).at_ (v := .int .i64 ((j : Int) + 1)) 18 rfl
    have X := ((Below.then_ K hSw).cell (p := ⟨b, o + (j + 1), none⟩) hb).trans hc
    go_simp
    try with_reducible rfl
    try omega
  try simp only [Act.put, List.setIfInBounds_toArray, List.set_cons_zero, List.set_cons_succ]
  refine wpAnyH_take (i := 2) (oi := ⟨some 23, _, _, _, _, _⟩) (v := ?_) rfl (by kernel_rfl) (by kernel_rfl) (by kernel_rfl) (fun _ _ _ h => h) (Or.inl ⟨by rfl, ?_⟩) hHeld ?_
  rotate_left
  · intro ww hSw
    try dsimp only at hSw
    go_simp
    try with_reducible rfl
    try omega
  try simp only [Act.put, List.setIfInBounds_toArray, List.set_cons_zero, List.set_cons_succ]
  refine wpAnyH_take (i := 3) (oi := ⟨some 24, _, _, _, _, _⟩) (v := ?_) rfl (by kernel_rfl) (by kernel_rfl) (by kernel_rfl) (fun _ _ _ h => h) (Or.inl ⟨by rfl, ?_⟩) hHeld ?_
  rotate_left
  · intro ww hSw
    try dsimp only at hSw
    go_simp
    try with_reducible rfl
    try omega
  try simp only [Act.put, List.setIfInBounds_toArray, List.set_cons_zero, List.set_cons_succ]
  refine wpAnyH_take (i := 4) (oi := ⟨some 25, _, _, _, _, _⟩) (v := ?_) rfl (by kernel_rfl) (by kernel_rfl) (by kernel_rfl) (fun _ _ _ h => h) (Or.inl ⟨by rfl, ?_⟩) hHeld ?_
  rotate_left
  · intro ww hSw
    try dsimp only at hSw
    have H_0 := (H.below hSw).at_ (v := .int .u32 a) 0 rfl
    have H_1 := (H.below hSw).at_ (v := .int .i64 p) 1 rfl
    have O_2 := (O.below hSw).at_ (v := .slice (some ⟨b, o, none⟩) n0 c0) 2 rfl
    have O_18 := (O.below hSw).at_ (v := .int .i64 ((j : Int) + 1)) 18 rfl
    have X := ((Below.then_ K hSw).cell (p := ⟨b, o + (j + 1), none⟩) hb).trans hc
    go_simp
    try with_reducible rfl
    try omega
  try simp only [Act.put, List.setIfInBounds_toArray, List.set_cons_zero, List.set_cons_succ]
  refine wpAnyH_take (i := 5) (oi := ⟨some 26, _, _, _, _, _⟩) (v := ?_) rfl (by kernel_rfl) (by kernel_rfl) (by kernel_rfl) (fun _ _ _ h => h) (Or.inl ⟨by rfl, ?_⟩) hHeld ?_
  rotate_left
  · intro ww hSw
    try dsimp only at hSw
    go_simp
    try with_reducible rfl
    try omega
  try simp only [Act.put, List.setIfInBounds_toArray, List.set_cons_zero, List.set_cons_succ]
  refine wpAnyH_take (i := 6) (oi := ⟨some 27, _, _, _, _, _⟩) (v := ?_) rfl (by kernel_rfl) (by kernel_rfl) (by kernel_rfl) (fun _ _ _ h => h) (Or.inl ⟨by rfl, ?_⟩) hHeld ?_
  rotate_left
  · intro ww hSw
    try dsimp only at hSw
    have H_0 := (H.below hSw).at_ (v := .int .u32 a) 0 rfl
    have H_1 := (H.below hSw).at_ (v := .int .i64 p) 1 rfl
    have O_2 := (O.below hSw).at_ (v := .slice (some ⟨b, o, none⟩) n0 c0) 2 rfl
    have O_18 := (O.below hSw).at_ (v := .int .i64 ((j : Int) + 1)) 18 rfl
    have X := ((Below.then_ K hSw).cell (p := ⟨b, o + (j + 1), none⟩) hb).trans hc
    go_simp
    try with_reducible rfl
    try omega
  try simp only [Act.put, List.setIfInBounds_toArray, List.set_cons_zero, List.set_cons_succ]
  refine wpAnyH_take (i := 7) (oi := ⟨some 28, _, _, _, _, _⟩) (v := .pointer (some ⟨b, o + (j + 1), none⟩)) rfl (by kernel_rfl) (by kernel_rfl) (by kernel_rfl) (fun _ _ _ h => h) (Or.inl ⟨by rfl, ?_⟩) hHeld ?_
  · intro ww hSw
    try dsimp only at hSw
    go_simp
    try with_reducible rfl
    try omega
  try simp only [Act.put, List.setIfInBounds_toArray, List.set_cons_zero, List.set_cons_succ]
  refine wpAnyH_take (i := 8) (oi := ⟨some 29, _, _, _, _, _⟩) (v := ?_) rfl (by kernel_rfl) (by kernel_rfl) (by kernel_rfl) (fun _ _ _ h => h) (Or.inl ⟨by rfl, ?_⟩) hHeld ?_
  rotate_left
  · intro ww hSw
    try dsimp only at hSw
    have H_0 := (H.below hSw).at_ (v := .int .u32 a) 0 rfl
    have H_1 := (H.below hSw).at_ (v := .int .i64 p) 1 rfl
    have O_2 := (O.below hSw).at_ (v := .slice (some ⟨b, o, none⟩) n0 c0) 2 rfl
    have O_18 := (O.below hSw).at_ (v := .int .i64 ((j : Int) + 1)) 18 rfl
    have X := ((Below.then_ K hSw).cell (p := ⟨b, o + (j + 1), none⟩) hb).trans hc
    go_simp
    try with_reducible rfl
    try omega
  try simp only [Act.put, List.setIfInBounds_toArray, List.set_cons_zero, List.set_cons_succ]
  refine wpAnyH_ready (rs := [9]) (by kernel_rfl) (by simp) ?_
  refine AllReadyH.cons (o := ⟨some 30, _, _, _, _, _⟩) rfl (fun K0 hK => ?_) AllReadyH.nil
  go_simp
  refine ((T1 _).out).mono ?_
  rintro e ww ⟨rfl, K'⟩
  refine hK.out _ _ (Below.then_ hHeld K') (fun hHeld' => ?_)
  clear hHeld K' hK K0
  have hHeld := hHeld'
  clear hHeld'
  try simp only [Act.put, List.setIfInBounds_toArray, List.set_cons_zero, List.set_cons_succ]
  refine wpAnyH_take (i := 10) (oi := ⟨some 20, _, _, _, _, _⟩) (v := ?_) rfl (by kernel_rfl) (by kernel_rfl) (by kernel_rfl) (fun _ _ _ h => h) (Or.inl ⟨by rfl, ?_⟩) hHeld ?_
  rotate_left
  · intro ww hSw
    try dsimp only at hSw
    go_simp
    try with_reducible rfl
    try omega
  try simp only [Act.put, List.setIfInBounds_toArray, List.set_cons_zero, List.set_cons_succ]
  refine wpAnyH_take (i := 11) (oi := ⟨some 31, _, _, _, _, _⟩) (v := ?_) rfl (by kernel_rfl) (by kernel_rfl) (by kernel_rfl) (fun _ _ _ h => h) (Or.inl ⟨by rfl, ?_⟩) hHeld ?_
  rotate_left
  · intro ww hSw
    try dsimp only at hSw
    go_simp
    try with_reducible rfl
    try omega
  try simp only [Act.put, List.setIfInBounds_toArray, List.set_cons_zero, List.set_cons_succ]
  refine wpAnyH_take (i := 12) (oi := ⟨some 32, _, _, _, _, _⟩) (v := ?_) rfl (by kernel_rfl) (by kernel_rfl) (by kernel_rfl) (fun _ _ _ h => h) (Or.inl ⟨by rfl, ?_⟩) hHeld ?_
  rotate_left
  · intro ww hSw
    try dsimp only at hSw
    go_simp
    try with_reducible rfl
    try omega
  try simp only [Act.put, List.setIfInBounds_toArray, List.set_cons_zero, List.set_cons_succ]
  refine wpAnyH_take (i := 13) (oi := ⟨some 5, _, _, _, _, _⟩) (v := ?_) rfl (by kernel_rfl) (by kernel_rfl) (by kernel_rfl) (fun _ _ _ h => h) (Or.inl ⟨by rfl, ?_⟩) hHeld ?_
  rotate_left
  · intro ww hSw
    try dsimp only at hSw
    go_simp
    try with_reducible rfl
    try omega
  try simp only [Act.put, List.setIfInBounds_toArray, List.set_cons_zero, List.set_cons_succ]
  refine wpAnyH_take (i := 14) (oi := ⟨some 6, _, _, _, _, _⟩) (v := ?_) rfl (by kernel_rfl) (by kernel_rfl) (by kernel_rfl) (fun _ _ _ h => h) (Or.inl ⟨by rfl, ?_⟩) hHeld ?_
  rotate_left
  · intro ww hSw
    try dsimp only at hSw
    go_simp
    try with_reducible rfl
    try omega
  try simp only [Act.put, List.setIfInBounds_toArray, List.set_cons_zero, List.set_cons_succ]
  refine wpAnyH_done (by kernel_rfl) ?_ _
  replace H := H.below hHeld
  replace O := O.below hHeld
  replace R := R.below hHeld
  replace K := Below.then_ K hHeld
  clear hHeld
  clear e1 e2 e3 e4
  have O_11 := O.at_ (v := .int .i64 (leaf)) 11 rfl
  have O_12 := O.at_ (v := .int .i64 (bit)) 12 rfl
  have O_z := O.lt
  have O_f11 := O.fz 11
  have O_f12 := O.fz 12
  go_upto_region 7 with ((with_reducible refine ((T2 _).out).mono ?_); rintro e w' ⟨rfl, rfl⟩)
  replace H := H.far (p := ⟨gO, 11, none⟩) ne_H_O (.int .i64 (q : Nat))
  replace R := R.far (p := ⟨gO, 11, none⟩) (Ne.symm ne_O_R) (.int .i64 (q : Nat))
  replace O := O.set_ 11 (.int .i64 (q : Nat))
  replace K := K.setCell (p := ⟨gO, 11, none⟩) O_b (.int .i64 (q : Nat))
  replace H := H.far (p := ⟨gO, 12, none⟩) ne_H_O (.int .i64 (r : Nat))
  replace R := R.far (p := ⟨gO, 12, none⟩) (Ne.symm ne_O_R) (.int .i64 (r : Nat))
  replace O := O.set_ 12 (.int .i64 (r : Nat))
  replace K := K.setCell (p := ⟨gO, 12, none⟩) O_b (.int .i64 (r : Nat))
  replace O : Bk (((ww).setCell ⟨gO, 11, none⟩ (.int .i64 (q : Nat))).setCell ⟨gO, 12, none⟩ (.int .i64 (r : Nat))) gO 44 (opv ⟨(some ⟨b, o, none⟩), n0, c0, A1, n1, c1, A2, n2, c2, A3, n3, c3⟩ ⟨kind, addr, err, aad, used, 8, shard, sought, (q : Int), (r : Int), 0, false, 0, tries, ((j : Int) + 1), stamp⟩) := O
  clear O_11 O_12 O_z O_f11 O_f12
  generalize ((ww).setCell ⟨gO, 11, none⟩ (.int .i64 (q : Nat))).setCell ⟨gO, 12, none⟩ (.int .i64 (r : Nat)) = w5 at H O R K ⊢
  go_wp2_with (first | (refine wpList_load_row rfl 44 (.tmp 3) rfl gO rfl _ _ (0, 0) _ O Try.underlying44 rfl op_sz ?_) | (refine wpList_store_row rfl 44 (.tmp 4) (.tmp 40) rfl gR _ rfl rfl _ _ R op_sz rfl (opv_one _ _) ?_))
  replace H := H.row_far ne_H_R (opv ⟨(some ⟨b, o, none⟩), n0, c0, A1, n1, c1, A2, n2, c2, A3, n3, c3⟩ ⟨kind, addr, err, aad, used, 8, shard, sought, (q : Int), (r : Int), 0, false, 0, tries, ((j : Int) + 1), stamp⟩)
  replace O := O.row_far ne_O_R (opv ⟨(some ⟨b, o, none⟩), n0, c0, A1, n1, c1, A2, n2, c2, A3, n3, c3⟩ ⟨kind, addr, err, aad, used, 8, shard, sought, (q : Int), (r : Int), 0, false, 0, tries, ((j : Int) + 1), stamp⟩)
  replace R := R.row (opv ⟨(some ⟨b, o, none⟩), n0, c0, A1, n1, c1, A2, n2, c2, A3, n3, c3⟩ ⟨kind, addr, err, aad, used, 8, shard, sought, (q : Int), (r : Int), 0, false, 0, tries, ((j : Int) + 1), stamp⟩)
  replace K := below_setRow K R_b (opv ⟨(some ⟨b, o, none⟩), n0, c0, A1, n1, c1, A2, n2, c2, A3, n3, c3⟩ ⟨kind, addr, err, aad, used, 8, shard, sought, (q : Int), (r : Int), 0, false, 0, tries, ((j : Int) + 1), stamp⟩)
  generalize w5.setRow gR (opv ⟨(some ⟨b, o, none⟩), n0, c0, A1, n1, c1, A2, n2, c2, A3, n3, c3⟩ ⟨kind, addr, err, aad, used, 8, shard, sought, (q : Int), (r : Int), 0, false, 0, tries, ((j : Int) + 1), stamp⟩) = w6 at H O R K ⊢
  refine bodyPost_ret (v := .agg (opv ⟨(some ⟨b, o, none⟩), n0, c0, A1, n1, c1, A2, n2, c2, A3, n3, c3⟩ ⟨kind, addr, err, aad, used, 8, shard, sought, (q : Int), (r : Int), 0, false, 0, tries, ((j : Int) + 1), stamp⟩)) ?_ rfl ?_
  · exact results_cell_row (fn := Try.f87) Try.results87 _ _ gR _ _ (0, 0) _ rfl R Try.underlying44 rfl op_sz
  exact ⟨rfl, K⟩
end
end Go.Proofs.Ytacgjaohfcoigaa

/-
  What the document's Goes answers of an operation: gone on. Conditions: at most 65536 addresses, all the block's; Item from 0 to 65536.
-/
namespace Go.Proofs.Ytacgjaohfcoigaa
set_option maxRecDepth 100000
open Go.RowKit
set_option linter.unusedVariables false
theorem fur_kind {n : Nat} {s : Sc} (h : fur n s = true) : s.kind = 4 := (of_decide_eq_true h).1
theorem onward_any {w : World} {lo a M : Nat} {p sh wo qu tr : Int} {A : Option Addr} {n c : Nat} {xs : List Int} {h : Hd} {s : Sc} (ha : a < 4294967296) (hM : Much a p M) (hn : h.n0 ≤ 65536) (hI : IS .u32 lo w h.A0 h.n0 h.c0 xs) (hin : s.kind = 4 → InB a M h.n0 xs) :
    Calls Try.prog 87 #[.agg #[.int .u32 a, .int .i64 p, .slice A n c, .int .i64 sh, .int .i64 wo, .int .i64 qu, .int .i64 tr], .agg (opv h s)] w (RetOp h (gon a h.n0 xs s) w) := by
  cases hf : fur h.n0 s with
  | true => unfold gon; rw [if_pos hf]; exact onward_more ha hM hn hI (hin (fur_kind hf)) hf
  | false => unfold gon; rw [if_neg (by simp [hf])]; exact onward_end hn hf
section
variable {w : World} {lo a M : Nat} {p sh wo qu tr : Int} {A : Option Addr} {n c : Nat} {xs : List Int} {h : Hd} {s : Sc}
end
end Go.Proofs.Ytacgjaohfcoigaa

/-
  What hint.done, hint.marked and hint.look answer of an operation. Conditions: at most 65536 addresses, all the block's; Word below 2^64; a bit below 64.
-/
namespace Go.Proofs.Ytacgjaohfcoigaa
set_option maxRecDepth 100000
open Go.RowKit
theorem msk64 : msk 64 = 18446744073709551615 := by decide +kernel
section
variable {w : World} {lo a M : Nat} {p sh wo qu tr : Int} {A : Option Addr} {n c : Nat} {xs : List Int} {h : Hd} {s : Sc}
set_option maxHeartbeats 1000000 in
theorem done_0 (ha : a < 4294967296) (hM : Much a p M) (hn : h.n0 ≤ 65536) (hI : IS .u32 lo w h.A0 h.n0 h.c0 xs) (hin : s.kind = 4 → InB a M h.n0 xs) (h0 : s.at_ ≠ 0) :
    Calls Try.prog 80 #[.agg #[.int .u32 a, .int .i64 p, .slice A n c, .int .i64 sh, .int .i64 wo, .int .i64 qu, .int .i64 tr], .agg (opv h s)] w (RetOp h (gon a h.n0 xs s) w) := by
  have T := fun w => Lib.hid (mask_any 64 (by omega) w)
  have TO := fun w (hI : IS .u32 lo w h.A0 h.n0 h.c0 xs) => Lib.hid (onward_any (w := w) (sh := sh) (wo := wo) (qu := qu) (tr := tr) (A := A) (n := n) (c := c) (s := s) ha hM hn hI hin)
  rcases s with ⟨kind, addr, err, aad, used, phase, shard, sought, leaf, bit, word, full, at_, tries, item, stamp⟩
  rcases h with ⟨A0, n0, c0, A1, n1, c1, A2, n2, c2, A3, n3, c3⟩
  dsimp only at *
  have e0 : (at_ == 0) = false := by simpa using h0
  have e1 : (at_ != 0) = true := by simpa using h0
  clear h0
  go_enter Try.func80, Try.ntmps80
  go_upto_region 1 with (fail)
  have K := below_alloc w (.cells #[.int .u32 a, .int .i64 p, .slice A n c, .int .i64 sh, .int .i64 wo, .int .i64 qu, .int .i64 tr] 27)
  have H : Bk (World.alloc (w) (.cells #[.int .u32 a, .int .i64 p, .slice A n c, .int .i64 sh, .int .i64 wo, .int .i64 qu, .int .i64 tr] 27)) (World.heap (w)).size 27 (#[.int .u32 a, .int .i64 p, .slice A n c, .int .i64 sh, .int .i64 wo, .int .i64 qu, .int .i64 tr]) := Bk.new _ _ _
  replace H := H.alloc (.cells (opv ⟨A0, n0, c0, A1, n1, c1, A2, n2, c2, A3, n3, c3⟩ ⟨kind, addr, err, aad, used, phase, shard, sought, leaf, bit, word, full, at_, tries, item, stamp⟩) 44)
  replace K := Below.then_ K (below_alloc _ (.cells (opv ⟨A0, n0, c0, A1, n1, c1, A2, n2, c2, A3, n3, c3⟩ ⟨kind, addr, err, aad, used, phase, shard, sought, leaf, bit, word, full, at_, tries, item, stamp⟩) 44))
  have O : Bk (World.alloc ((w).alloc (.cells #[.int .u32 a, .int .i64 p, .slice A n c, .int .i64 sh, .int .i64 wo, .int .i64 qu, .int .i64 tr] 27)) (.cells (opv ⟨A0, n0, c0, A1, n1, c1, A2, n2, c2, A3, n3, c3⟩ ⟨kind, addr, err, aad, used, phase, shard, sought, leaf, bit, word, full, at_, tries, item, stamp⟩) 44)) (World.heap ((w).alloc (.cells #[.int .u32 a, .int .i64 p, .slice A n c, .int .i64 sh, .int .i64 wo, .int .i64 qu, .int .i64 tr] 27))).size 44 (opv ⟨A0, n0, c0, A1, n1, c1, A2, n2, c2, A3, n3, c3⟩ ⟨kind, addr, err, aad, used, phase, shard, sought, leaf, bit, word, full, at_, tries, item, stamp⟩) := Bk.new _ _ _
  replace H := H.alloc (.cells #[.int .i64 0, .int .u32 0, .slice none 0 0, .int .i64 0, .int .u32 0, .bool false, .slice none 0 0, .slice none 0 0, .int .i64 0, .int .i64 0, .int .i64 0, .int .i64 0, .int .i64 0, .int .u64 0, .bool false, .slice none 0 0, .int .i64 0, .int .i64 0, .int .i64 0, .int .i64 0] 44)
  replace O := O.alloc (.cells #[.int .i64 0, .int .u32 0, .slice none 0 0, .int .i64 0, .int .u32 0, .bool false, .slice none 0 0, .slice none 0 0, .int .i64 0, .int .i64 0, .int .i64 0, .int .i64 0, .int .i64 0, .int .u64 0, .bool false, .slice none 0 0, .int .i64 0, .int .i64 0, .int .i64 0, .int .i64 0] 44)
  replace K := Below.then_ K (below_alloc _ (.cells #[.int .i64 0, .int .u32 0, .slice none 0 0, .int .i64 0, .int .u32 0, .bool false, .slice none 0 0, .slice none 0 0, .int .i64 0, .int .i64 0, .int .i64 0, .int .i64 0, .int .i64 0, .int .u64 0, .bool false, .slice none 0 0, .int .i64 0, .int .i64 0, .int .i64 0, .int .i64 0] 44))
  have R : Bk (World.alloc (((w).alloc (.cells #[.int .u32 a, .int .i64 p, .slice A n c, .int .i64 sh, .int .i64 wo, .int .i64 qu, .int .i64 tr] 27)).alloc (.cells (opv ⟨A0, n0, c0, A1, n1, c1, A2, n2, c2, A3, n3, c3⟩ ⟨kind, addr, err, aad, used, phase, shard, sought, leaf, bit, word, full, at_, tries, item, stamp⟩) 44)) (.cells #[.int .i64 0, .int .u32 0, .slice none 0 0, .int .i64 0, .int .u32 0, .bool false, .slice none 0 0, .slice none 0 0, .int .i64 0, .int .i64 0, .int .i64 0, .int .i64 0, .int .i64 0, .int .u64 0, .bool false, .slice none 0 0, .int .i64 0, .int .i64 0, .int .i64 0, .int .i64 0] 44)) (World.heap (((w).alloc (.cells #[.int .u32 a, .int .i64 p, .slice A n c, .int .i64 sh, .int .i64 wo, .int .i64 qu, .int .i64 tr] 27)).alloc (.cells (opv ⟨A0, n0, c0, A1, n1, c1, A2, n2, c2, A3, n3, c3⟩ ⟨kind, addr, err, aad, used, phase, shard, sought, leaf, bit, word, full, at_, tries, item, stamp⟩) 44))).size 44 (opv hd0 sc0) := Bk.new _ _ _
  try simp only [World.size_alloc] at H O R
  generalize (((w).alloc (.cells #[.int .u32 a, .int .i64 p, .slice A n c, .int .i64 sh, .int .i64 wo, .int .i64 qu, .int .i64 tr] 27)).alloc (.cells (opv ⟨A0, n0, c0, A1, n1, c1, A2, n2, c2, A3, n3, c3⟩ ⟨kind, addr, err, aad, used, phase, shard, sought, leaf, bit, word, full, at_, tries, item, stamp⟩) 44)).alloc (.cells #[.int .i64 0, .int .u32 0, .slice none 0 0, .int .i64 0, .int .u32 0, .bool false, .slice none 0 0, .slice none 0 0, .int .i64 0, .int .i64 0, .int .i64 0, .int .i64 0, .int .i64 0, .int .u64 0, .bool false, .slice none 0 0, .int .i64 0, .int .i64 0, .int .i64 0, .int .i64 0] 44) = w1 at H O R K ⊢
  obtain ⟨gR, hgR⟩ : ∃ g, g = w.heap.size + 1 + 1 := ⟨_, rfl⟩
  rw [← hgR] at R ⊢
  obtain ⟨gO, hgO⟩ : ∃ g, g = w.heap.size + 1 := ⟨_, rfl⟩
  rw [← hgO] at O ⊢
  obtain ⟨gH, hgH⟩ : ∃ g, g = w.heap.size := ⟨_, rfl⟩
  rw [← hgH] at H ⊢
  have H_b : w.heap.size ≤ gH := by omega
  have O_b : w.heap.size ≤ gO := by omega
  have R_b : w.heap.size ≤ gR := by omega
  have ne_H_O : gH ≠ gO := by omega
  have ne_H_R : gH ≠ gR := by omega
  have ne_O_R : gO ≠ gR := by omega
  clear hgH hgO hgR
  refine wp_region_held_drew (S := fun w' => Below w.heap.size w w' ∧ Bk w' gH 27 (#[.int .u32 a, .int .i64 p, .slice A n c, .int .i64 sh, .int .i64 wo, .int .i64 qu, .int .i64 tr]) ∧ Bk w' gO 44 (opv ⟨A0, n0, c0, A1, n1, c1, A2, n2, c2, A3, n3, c3⟩ ⟨kind, addr, err, aad, used, phase, shard, sought, leaf, bit, word, full, at_, tries, item, stamp⟩) ∧ Bk w' gR 44 (opv hd0 sc0) ∧ True) (by kernel_rfl) ⟨K.drew, H.below ((Below.refl _ _).drew), O.below ((Below.refl _ _).drew), R.below ((Below.refl _ _).drew), trivial⟩ (fun hHeld => ?_)
  generalize w1.drew = v2 at hHeld ⊢
  refine wpAnyH_take (i := 0) (oi := ⟨some 5, _, _, _, _, _⟩) (v := ?_) rfl (by kernel_rfl) (by kernel_rfl) (by kernel_rfl) (fun _ _ _ h => h) (Or.inl ⟨by rfl, ?_⟩) hHeld ?_
  rotate_left
  · intro ww hSw
    try dsimp only at hSw
    go_simp
    try with_reducible rfl
    try omega
  try simp only [Act.put, List.setIfInBounds_toArray, List.set_cons_zero, List.set_cons_succ]
  refine wpAnyH_take (i := 1) (oi := ⟨some 6, _, _, _, _, _⟩) (v := ?_) rfl (by kernel_rfl) (by kernel_rfl) (by kernel_rfl) (fun _ _ _ h => h) (Or.inl ⟨by rfl, ?_⟩) hHeld ?_
  rotate_left
  · intro ww hSw
    try dsimp only at hSw
    have O_16 := hSw.2.2.1.at_ (v := .int .i64 (at_)) 16 rfl
    have O_14 := hSw.2.2.1.at_ (v := .bool (full)) 14 rfl
    have O_13 := hSw.2.2.1.at_ (v := .int .u64 ((word : Nat) : Int)) 13 rfl
    go_simp
    try with_reducible rfl
    try omega
  try simp only [Act.put, List.setIfInBounds_toArray, List.set_cons_zero, List.set_cons_succ]
  refine wpAnyH_take (i := 2) (oi := ⟨some 7, _, _, _, _, _⟩) (v := .bool true) rfl (by kernel_rfl) (by kernel_rfl) (by kernel_rfl) (fun _ _ _ h => h) (Or.inl ⟨by rfl, ?_⟩) hHeld ?_
  · intro ww hSw
    try dsimp only at hSw
    go_simp
    try with_reducible rfl
    try omega
  try simp only [Act.put, List.setIfInBounds_toArray, List.set_cons_zero, List.set_cons_succ]
  refine wpAnyH_take (i := 3) (oi := ⟨some 8, _, _, _, _, _⟩) (v := .bool true) rfl (by kernel_rfl) (by kernel_rfl) (by kernel_rfl) (fun _ _ _ h => h) (Or.inl ⟨by rfl, ?_⟩) hHeld ?_
  · intro ww hSw
    try dsimp only at hSw
    go_simp
    try with_reducible rfl
    try omega
  try simp only [Act.put, List.setIfInBounds_toArray, List.set_cons_zero, List.set_cons_succ]
  refine wpAnyH_take (i := 4) (oi := ⟨some 9, _, _, _, _, _⟩) (v := undef) rfl (by kernel_rfl) (by kernel_rfl) (by kernel_rfl) (fun _ _ _ h => h) (Or.inr ⟨by rfl, rfl⟩) hHeld ?_
  try simp only [Act.put, List.setIfInBounds_toArray, List.set_cons_zero, List.set_cons_succ]
  refine wpAnyH_take (i := 5) (oi := ⟨some 10, _, _, _, _, _⟩) (v := undef) rfl (by kernel_rfl) (by kernel_rfl) (by kernel_rfl) (fun _ _ _ h => h) (Or.inr ⟨by rfl, rfl⟩) hHeld ?_
  try simp only [Act.put, List.setIfInBounds_toArray, List.set_cons_zero, List.set_cons_succ]
  refine wpAnyH_take (i := 6) (oi := ⟨some 11, _, _, _, _, _⟩) (v := undef) rfl (by kernel_rfl) (by kernel_rfl) (by kernel_rfl) (fun _ _ _ h => h) (Or.inr ⟨by rfl, rfl⟩) hHeld ?_
  try simp only [Act.put, List.setIfInBounds_toArray, List.set_cons_zero, List.set_cons_succ]
  refine wpAnyH_take (i := 7) (oi := ⟨some 12, _, _, _, _, _⟩) (v := undef) rfl (by kernel_rfl) (by kernel_rfl) (by kernel_rfl) (fun _ _ _ h => h) (Or.inr ⟨by rfl, rfl⟩) hHeld ?_
  try simp only [Act.put, List.setIfInBounds_toArray, List.set_cons_zero, List.set_cons_succ]
  refine wpAnyH_take (i := 8) (oi := ⟨some 13, _, _, _, _, _⟩) (v := undef) rfl (by kernel_rfl) (by kernel_rfl) (by kernel_rfl) (fun _ _ _ h => h) (Or.inr ⟨by rfl, rfl⟩) hHeld ?_
  try simp only [Act.put, List.setIfInBounds_toArray, List.set_cons_zero, List.set_cons_succ]
  refine wpAnyH_take (i := 9) (oi := ⟨some 14, _, _, _, _, _⟩) (v := undef) rfl (by kernel_rfl) (by kernel_rfl) (by kernel_rfl) (fun _ _ _ h => h) (Or.inr ⟨by rfl, rfl⟩) hHeld ?_
  try simp only [Act.put, List.setIfInBounds_toArray, List.set_cons_zero, List.set_cons_succ]
  refine wpAnyH_take (i := 10) (oi := ⟨some 15, _, _, _, _, _⟩) (v := undef) rfl (by kernel_rfl) (by kernel_rfl) (by kernel_rfl) (fun _ _ _ h => h) (Or.inr ⟨by rfl, rfl⟩) hHeld ?_
  try simp only [Act.put, List.setIfInBounds_toArray, List.set_cons_zero, List.set_cons_succ]
  refine wpAnyH_take (i := 11) (oi := ⟨some 16, _, _, _, _, _⟩) (v := undef) rfl (by kernel_rfl) (by kernel_rfl) (by kernel_rfl) (fun _ _ _ h => h) (Or.inr ⟨by rfl, rfl⟩) hHeld ?_
  try simp only [Act.put, List.setIfInBounds_toArray, List.set_cons_zero, List.set_cons_succ]
  refine wpAnyH_take (i := 12) (oi := ⟨some 17, _, _, _, _, _⟩) (v := .bool true) rfl (by kernel_rfl) (by kernel_rfl) (by kernel_rfl) (fun _ _ _ h => h) (Or.inl ⟨by rfl, ?_⟩) hHeld ?_
  · intro ww hSw
    try dsimp only at hSw
    go_simp
    try with_reducible rfl
    try omega
  try simp only [Act.put, List.setIfInBounds_toArray, List.set_cons_zero, List.set_cons_succ]
  refine wpAnyH_done (by kernel_rfl) ?_ _
  replace K := hHeld.1
  replace H := hHeld.2.1
  replace O := hHeld.2.2.1
  replace R := hHeld.2.2.2.1
  clear hHeld
  go_wp2_with (first | (refine wpList_load_row rfl 27 (.tmp 2) rfl gH rfl _ _ (0, 0) _ H Try.underlying27 rfl cf_sz ?_) | (refine wpList_load_row rfl 44 (.tmp 3) rfl gO rfl _ _ (0, 0) _ O Try.underlying44 rfl op_sz ?_))
  refine ((TO _ (hI.below K)).out).mono ?_
  rintro e w3 ⟨rfl, K'⟩
  replace H := H.below K'
  replace O := O.below K'
  replace R := R.below K'
  replace K := Below.then_ K K'
  clear K'
  go_wp2_with (refine wpList_store_row rfl 44 (.tmp 4) (.tmp 20) rfl gR _ rfl rfl _ _ R op_sz rfl (opv_one _ _) ?_)
  replace H := H.row_far ne_H_R (opv ⟨A0, n0, c0, A1, n1, c1, A2, n2, c2, A3, n3, c3⟩ (gon a n0 xs ⟨kind, addr, err, aad, used, phase, shard, sought, leaf, bit, word, full, at_, tries, item, stamp⟩))
  replace O := O.row_far ne_O_R (opv ⟨A0, n0, c0, A1, n1, c1, A2, n2, c2, A3, n3, c3⟩ (gon a n0 xs ⟨kind, addr, err, aad, used, phase, shard, sought, leaf, bit, word, full, at_, tries, item, stamp⟩))
  replace R := R.row (opv ⟨A0, n0, c0, A1, n1, c1, A2, n2, c2, A3, n3, c3⟩ (gon a n0 xs ⟨kind, addr, err, aad, used, phase, shard, sought, leaf, bit, word, full, at_, tries, item, stamp⟩))
  replace K := below_setRow K R_b (opv ⟨A0, n0, c0, A1, n1, c1, A2, n2, c2, A3, n3, c3⟩ (gon a n0 xs ⟨kind, addr, err, aad, used, phase, shard, sought, leaf, bit, word, full, at_, tries, item, stamp⟩))
  generalize w3.setRow gR (opv ⟨A0, n0, c0, A1, n1, c1, A2, n2, c2, A3, n3, c3⟩ (gon a n0 xs ⟨kind, addr, err, aad, used, phase, shard, sought, leaf, bit, word, full, at_, tries, item, stamp⟩)) = w4 at H O R K ⊢
  refine bodyPost_ret (v := .agg (opv ⟨A0, n0, c0, A1, n1, c1, A2, n2, c2, A3, n3, c3⟩ (gon a n0 xs ⟨kind, addr, err, aad, used, phase, shard, sought, leaf, bit, word, full, at_, tries, item, stamp⟩))) ?_ rfl ?_
  · exact results_cell_row (fn := Try.f80) Try.results80 _ _ gR _ _ (0, 0) _ rfl R Try.underlying44 rfl op_sz
  exact ⟨rfl, K⟩
set_option maxHeartbeats 1000000 in
theorem done_1 (ha : a < 4294967296) (hM : Much a p M) (hn : h.n0 ≤ 65536) (hI : IS .u32 lo w h.A0 h.n0 h.c0 xs) (hin : s.kind = 4 → InB a M h.n0 xs) (h0 : s.at_ = 0) (h1 : s.full = true) (h2 : s.word ≠ msk 64) :
    Calls Try.prog 80 #[.agg #[.int .u32 a, .int .i64 p, .slice A n c, .int .i64 sh, .int .i64 wo, .int .i64 qu, .int .i64 tr], .agg (opv h s)] w (RetOp h (gon a h.n0 xs s) w) := by
  have T := fun w => Lib.hid (mask_any 64 (by omega) w)
  have TO := fun w (hI : IS .u32 lo w h.A0 h.n0 h.c0 xs) => Lib.hid (onward_any (w := w) (sh := sh) (wo := wo) (qu := qu) (tr := tr) (A := A) (n := n) (c := c) (s := s) ha hM hn hI hin)
  rcases s with ⟨kind, addr, err, aad, used, phase, shard, sought, leaf, bit, word, full, at_, tries, item, stamp⟩
  rcases h with ⟨A0, n0, c0, A1, n1, c1, A2, n2, c2, A3, n3, c3⟩
  dsimp only at *
  subst h0 h1
  have e0 : ((word : Int) == (msk 64 : Nat)) = false := by simp; omega
  have e1 : ((word : Int) != (msk 64 : Nat)) = true := by simp; omega
  clear h2
  go_enter Try.func80, Try.ntmps80
  go_upto_region 1 with (fail)
  have K := below_alloc w (.cells #[.int .u32 a, .int .i64 p, .slice A n c, .int .i64 sh, .int .i64 wo, .int .i64 qu, .int .i64 tr] 27)
  have H : Bk (World.alloc (w) (.cells #[.int .u32 a, .int .i64 p, .slice A n c, .int .i64 sh, .int .i64 wo, .int .i64 qu, .int .i64 tr] 27)) (World.heap (w)).size 27 (#[.int .u32 a, .int .i64 p, .slice A n c, .int .i64 sh, .int .i64 wo, .int .i64 qu, .int .i64 tr]) := Bk.new _ _ _
  replace H := H.alloc (.cells (opv ⟨A0, n0, c0, A1, n1, c1, A2, n2, c2, A3, n3, c3⟩ ⟨kind, addr, err, aad, used, phase, shard, sought, leaf, bit, word, true, 0, tries, item, stamp⟩) 44)
  replace K := Below.then_ K (below_alloc _ (.cells (opv ⟨A0, n0, c0, A1, n1, c1, A2, n2, c2, A3, n3, c3⟩ ⟨kind, addr, err, aad, used, phase, shard, sought, leaf, bit, word, true, 0, tries, item, stamp⟩) 44))
  have O : Bk (World.alloc ((w).alloc (.cells #[.int .u32 a, .int .i64 p, .slice A n c, .int .i64 sh, .int .i64 wo, .int .i64 qu, .int .i64 tr] 27)) (.cells (opv ⟨A0, n0, c0, A1, n1, c1, A2, n2, c2, A3, n3, c3⟩ ⟨kind, addr, err, aad, used, phase, shard, sought, leaf, bit, word, true, 0, tries, item, stamp⟩) 44)) (World.heap ((w).alloc (.cells #[.int .u32 a, .int .i64 p, .slice A n c, .int .i64 sh, .int .i64 wo, .int .i64 qu, .int .i64 tr] 27))).size 44 (opv ⟨A0, n0, c0, A1, n1, c1, A2, n2, c2, A3, n3, c3⟩ ⟨kind, addr, err, aad, used, phase, shard, sought, leaf, bit, word, true, 0, tries, item, stamp⟩) := Bk.new _ _ _
  replace H := H.alloc (.cells #[.int .i64 0, .int .u32 0, .slice none 0 0, .int .i64 0, .int .u32 0, .bool false, .slice none 0 0, .slice none 0 0, .int .i64 0, .int .i64 0, .int .i64 0, .int .i64 0, .int .i64 0, .int .u64 0, .bool false, .slice none 0 0, .int .i64 0, .int .i64 0, .int .i64 0, .int .i64 0] 44)
  replace O := O.alloc (.cells #[.int .i64 0, .int .u32 0, .slice none 0 0, .int .i64 0, .int .u32 0, .bool false, .slice none 0 0, .slice none 0 0, .int .i64 0, .int .i64 0, .int .i64 0, .int .i64 0, .int .i64 0, .int .u64 0, .bool false, .slice none 0 0, .int .i64 0, .int .i64 0, .int .i64 0, .int .i64 0] 44)
  replace K := Below.then_ K (below_alloc _ (.cells #[.int .i64 0, .int .u32 0, .slice none 0 0, .int .i64 0, .int .u32 0, .bool false, .slice none 0 0, .slice none 0 0, .int .i64 0, .int .i64 0, .int .i64 0, .int .i64 0, .int .i64 0, .int .u64 0, .bool false, .slice none 0 0, .int .i64 0, .int .i64 0, .int .i64 0, .int .i64 0] 44))
  have R : Bk (World.alloc (((w).alloc (.cells #[.int .u32 a, .int .i64 p, .slice A n c, .int .i64 sh, .int .i64 wo, .int .i64 qu, .int .i64 tr] 27)).alloc (.cells (opv ⟨A0, n0, c0, A1, n1, c1, A2, n2, c2, A3, n3, c3⟩ ⟨kind, addr, err, aad, used, phase, shard, sought, leaf, bit, word, true, 0, tries, item, stamp⟩) 44)) (.cells #[.int .i64 0, .int .u32 0, .slice none 0 0, .int .i64 0, .int .u32 0, .bool false, .slice none 0 0, .slice none 0 0, .int .i64 0, .int .i64 0, .int .i64 0, .int .i64 0, .int .i64 0, .int .u64 0, .bool false, .slice none 0 0, .int .i64 0, .int .i64 0, .int .i64 0, .int .i64 0] 44)) (World.heap (((w).alloc (.cells #[.int .u32 a, .int .i64 p, .slice A n c, .int .i64 sh, .int .i64 wo, .int .i64 qu, .int .i64 tr] 27)).alloc (.cells (opv ⟨A0, n0, c0, A1, n1, c1, A2, n2, c2, A3, n3, c3⟩ ⟨kind, addr, err, aad, used, phase, shard, sought, leaf, bit, word, true, 0, tries, item, stamp⟩) 44))).size 44 (opv hd0 sc0) := Bk.new _ _ _
  try simp only [World.size_alloc] at H O R
  generalize (((w).alloc (.cells #[.int .u32 a, .int .i64 p, .slice A n c, .int .i64 sh, .int .i64 wo, .int .i64 qu, .int .i64 tr] 27)).alloc (.cells (opv ⟨A0, n0, c0, A1, n1, c1, A2, n2, c2, A3, n3, c3⟩ ⟨kind, addr, err, aad, used, phase, shard, sought, leaf, bit, word, true, 0, tries, item, stamp⟩) 44)).alloc (.cells #[.int .i64 0, .int .u32 0, .slice none 0 0, .int .i64 0, .int .u32 0, .bool false, .slice none 0 0, .slice none 0 0, .int .i64 0, .int .i64 0, .int .i64 0, .int .i64 0, .int .i64 0, .int .u64 0, .bool false, .slice none 0 0, .int .i64 0, .int .i64 0, .int .i64 0, .int .i64 0] 44) = w1 at H O R K ⊢
  obtain ⟨gR, hgR⟩ : ∃ g, g = w.heap.size + 1 + 1 := ⟨_, rfl⟩
  rw [← hgR] at R ⊢
  obtain ⟨gO, hgO⟩ : ∃ g, g = w.heap.size + 1 := ⟨_, rfl⟩
  rw [← hgO] at O ⊢
  obtain ⟨gH, hgH⟩ : ∃ g, g = w.heap.size := ⟨_, rfl⟩
  rw [← hgH] at H ⊢
  have H_b : w.heap.size ≤ gH := by omega
  have O_b : w.heap.size ≤ gO := by omega
  have R_b : w.heap.size ≤ gR := by omega
  have ne_H_O : gH ≠ gO := by omega
  have ne_H_R : gH ≠ gR := by omega
  have ne_O_R : gO ≠ gR := by omega
  clear hgH hgO hgR
  refine wp_region_held_drew (S := fun w' => Below w.heap.size w w' ∧ Bk w' gH 27 (#[.int .u32 a, .int .i64 p, .slice A n c, .int .i64 sh, .int .i64 wo, .int .i64 qu, .int .i64 tr]) ∧ Bk w' gO 44 (opv ⟨A0, n0, c0, A1, n1, c1, A2, n2, c2, A3, n3, c3⟩ ⟨kind, addr, err, aad, used, phase, shard, sought, leaf, bit, word, true, 0, tries, item, stamp⟩) ∧ Bk w' gR 44 (opv hd0 sc0) ∧ True) (by kernel_rfl) ⟨K.drew, H.below ((Below.refl _ _).drew), O.below ((Below.refl _ _).drew), R.below ((Below.refl _ _).drew), trivial⟩ (fun hHeld => ?_)
  generalize w1.drew = v2 at hHeld ⊢
  refine wpAnyH_take (i := 0) (oi := ⟨some 5, _, _, _, _, _⟩) (v := ?_) rfl (by kernel_rfl) (by kernel_rfl) (by kernel_rfl) (fun _ _ _ h => h) (Or.inl ⟨by rfl, ?_⟩) hHeld ?_
  rotate_left
  · intro ww hSw
    try dsimp only at hSw
    go_simp
    try with_reducible rfl
    try omega
  try simp only [Act.put, List.setIfInBounds_toArray, List.set_cons_zero, List.set_cons_succ]
  refine wpAnyH_take (i := 1) (oi := ⟨some 6, _, _, _, _, _⟩) (v := ?_) rfl (by kernel_rfl) (by kernel_rfl) (by kernel_rfl) (fun _ _ _ h => h) (Or.inl ⟨by rfl, ?_⟩) hHeld ?_
  rotate_left
  · intro ww hSw
    try dsimp only at hSw
    have O_16 := hSw.2.2.1.at_ (v := .int .i64 (0)) 16 rfl
    have O_14 := hSw.2.2.1.at_ (v := .bool (true)) 14 rfl
    have O_13 := hSw.2.2.1.at_ (v := .int .u64 ((word : Nat) : Int)) 13 rfl
    go_simp
    try with_reducible rfl
    try omega
  try simp only [Act.put, List.setIfInBounds_toArray, List.set_cons_zero, List.set_cons_succ]
  refine wpAnyH_take (i := 2) (oi := ⟨some 7, _, _, _, _, _⟩) (v := .bool false) rfl (by kernel_rfl) (by kernel_rfl) (by kernel_rfl) (fun _ _ _ h => h) (Or.inl ⟨by rfl, ?_⟩) hHeld ?_
  · intro ww hSw
    try dsimp only at hSw
    go_simp
    try with_reducible rfl
    try omega
  try simp only [Act.put, List.setIfInBounds_toArray, List.set_cons_zero, List.set_cons_succ]
  refine wpAnyH_take (i := 3) (oi := ⟨some 8, _, _, _, _, _⟩) (v := .bool false) rfl (by kernel_rfl) (by kernel_rfl) (by kernel_rfl) (fun _ _ _ h => h) (Or.inl ⟨by rfl, ?_⟩) hHeld ?_
  · intro ww hSw
    try dsimp only at hSw
    go_simp
    try with_reducible rfl
    try omega
  try simp only [Act.put, List.setIfInBounds_toArray, List.set_cons_zero, List.set_cons_succ]
  refine wpAnyH_take (i := 4) (oi := ⟨some 9, _, _, _, _, _⟩) (v := ?_) rfl (by kernel_rfl) (by kernel_rfl) (by kernel_rfl) (fun _ _ _ h => h) (Or.inl ⟨by rfl, ?_⟩) hHeld ?_
  rotate_left
  · intro ww hSw
    try dsimp only at hSw
    go_simp
    try with_reducible rfl
    try omega
  try simp only [Act.put, List.setIfInBounds_toArray, List.set_cons_zero, List.set_cons_succ]
  refine wpAnyH_take (i := 5) (oi := ⟨some 10, _, _, _, _, _⟩) (v := .bool true) rfl (by kernel_rfl) (by kernel_rfl) (by kernel_rfl) (fun _ _ _ h => h) (Or.inl ⟨by rfl, ?_⟩) hHeld ?_
  · intro ww hSw
    try dsimp only at hSw
    have O_16 := hSw.2.2.1.at_ (v := .int .i64 (0)) 16 rfl
    have O_14 := hSw.2.2.1.at_ (v := .bool (true)) 14 rfl
    have O_13 := hSw.2.2.1.at_ (v := .int .u64 ((word : Nat) : Int)) 13 rfl
    go_simp
    try with_reducible rfl
    try omega
  try simp only [Act.put, List.setIfInBounds_toArray, List.set_cons_zero, List.set_cons_succ]
  refine wpAnyH_take (i := 6) (oi := ⟨some 11, _, _, _, _, _⟩) (v := .bool true) rfl (by kernel_rfl) (by kernel_rfl) (by kernel_rfl) (fun _ _ _ h => h) (Or.inl ⟨by rfl, ?_⟩) hHeld ?_
  · intro ww hSw
    try dsimp only at hSw
    go_simp
    try with_reducible rfl
    try omega
  try simp only [Act.put, List.setIfInBounds_toArray, List.set_cons_zero, List.set_cons_succ]
  refine wpAnyH_take (i := 7) (oi := ⟨some 12, _, _, _, _, _⟩) (v := ?_) rfl (by kernel_rfl) (by kernel_rfl) (by kernel_rfl) (fun _ _ _ h => h) (Or.inl ⟨by rfl, ?_⟩) hHeld ?_
  rotate_left
  · intro ww hSw
    try dsimp only at hSw
    go_simp
    try with_reducible rfl
    try omega
  try simp only [Act.put, List.setIfInBounds_toArray, List.set_cons_zero, List.set_cons_succ]
  refine wpAnyH_take (i := 8) (oi := ⟨some 13, _, _, _, _, _⟩) (v := ?_) rfl (by kernel_rfl) (by kernel_rfl) (by kernel_rfl) (fun _ _ _ h => h) (Or.inl ⟨by rfl, ?_⟩) hHeld ?_
  rotate_left
  · intro ww hSw
    try dsimp only at hSw
    have O_16 := hSw.2.2.1.at_ (v := .int .i64 (0)) 16 rfl
    have O_14 := hSw.2.2.1.at_ (v := .bool (true)) 14 rfl
    have O_13 := hSw.2.2.1.at_ (v := .int .u64 ((word : Nat) : Int)) 13 rfl
    go_simp
    try with_reducible rfl
    try omega
  try simp only [Act.put, List.setIfInBounds_toArray, List.set_cons_zero, List.set_cons_succ]
  refine wpAnyH_ready (rs := [9]) (by kernel_rfl) (by simp) ?_
  refine AllReadyH.cons (o := ⟨some 14, _, _, _, _, _⟩) rfl (fun K0 hK => ?_) AllReadyH.nil
  go_simp
  refine ((T _).out).mono ?_
  rintro e _ ⟨rfl, rfl⟩
  refine hK.out _ _ hHeld (fun hHeld' => ?_)
  clear hHeld hK K0
  have hHeld := hHeld'
  clear hHeld'
  try simp only [Act.put, List.setIfInBounds_toArray, List.set_cons_zero, List.set_cons_succ]
  refine wpAnyH_take (i := 10) (oi := ⟨some 15, _, _, _, _, _⟩) (v := .bool true) rfl (by kernel_rfl) (by kernel_rfl) (by kernel_rfl) (fun _ _ _ h => h) (Or.inl ⟨by rfl, ?_⟩) hHeld ?_
  · intro ww hSw
    try dsimp only at hSw
    go_simp
    try with_reducible rfl
    try omega
  try simp only [Act.put, List.setIfInBounds_toArray, List.set_cons_zero, List.set_cons_succ]
  refine wpAnyH_take (i := 11) (oi := ⟨some 16, _, _, _, _, _⟩) (v := .bool true) rfl (by kernel_rfl) (by kernel_rfl) (by kernel_rfl) (fun _ _ _ h => h) (Or.inl ⟨by rfl, ?_⟩) hHeld ?_
  · intro ww hSw
    try dsimp only at hSw
    go_simp
    try with_reducible rfl
    try omega
  try simp only [Act.put, List.setIfInBounds_toArray, List.set_cons_zero, List.set_cons_succ]
  refine wpAnyH_take (i := 12) (oi := ⟨some 17, _, _, _, _, _⟩) (v := .bool true) rfl (by kernel_rfl) (by kernel_rfl) (by kernel_rfl) (fun _ _ _ h => h) (Or.inl ⟨by rfl, ?_⟩) hHeld ?_
  · intro ww hSw
    try dsimp only at hSw
    go_simp
    try with_reducible rfl
    try omega
  try simp only [Act.put, List.setIfInBounds_toArray, List.set_cons_zero, List.set_cons_succ]
  refine wpAnyH_done (by kernel_rfl) ?_ _
  replace K := hHeld.1
  replace H := hHeld.2.1
  replace O := hHeld.2.2.1
  replace R := hHeld.2.2.2.1
  clear hHeld
  go_wp2_with (first | (refine wpList_load_row rfl 27 (.tmp 2) rfl gH rfl _ _ (0, 0) _ H Try.underlying27 rfl cf_sz ?_) | (refine wpList_load_row rfl 44 (.tmp 3) rfl gO rfl _ _ (0, 0) _ O Try.underlying44 rfl op_sz ?_))
  refine ((TO _ (hI.below K)).out).mono ?_
  rintro e w3 ⟨rfl, K'⟩
  replace H := H.below K'
  replace O := O.below K'
  replace R := R.below K'
  replace K := Below.then_ K K'
  clear K'
  go_wp2_with (refine wpList_store_row rfl 44 (.tmp 4) (.tmp 20) rfl gR _ rfl rfl _ _ R op_sz rfl (opv_one _ _) ?_)
  replace H := H.row_far ne_H_R (opv ⟨A0, n0, c0, A1, n1, c1, A2, n2, c2, A3, n3, c3⟩ (gon a n0 xs ⟨kind, addr, err, aad, used, phase, shard, sought, leaf, bit, word, true, 0, tries, item, stamp⟩))
  replace O := O.row_far ne_O_R (opv ⟨A0, n0, c0, A1, n1, c1, A2, n2, c2, A3, n3, c3⟩ (gon a n0 xs ⟨kind, addr, err, aad, used, phase, shard, sought, leaf, bit, word, true, 0, tries, item, stamp⟩))
  replace R := R.row (opv ⟨A0, n0, c0, A1, n1, c1, A2, n2, c2, A3, n3, c3⟩ (gon a n0 xs ⟨kind, addr, err, aad, used, phase, shard, sought, leaf, bit, word, true, 0, tries, item, stamp⟩))
  replace K := below_setRow K R_b (opv ⟨A0, n0, c0, A1, n1, c1, A2, n2, c2, A3, n3, c3⟩ (gon a n0 xs ⟨kind, addr, err, aad, used, phase, shard, sought, leaf, bit, word, true, 0, tries, item, stamp⟩))
  generalize w3.setRow gR (opv ⟨A0, n0, c0, A1, n1, c1, A2, n2, c2, A3, n3, c3⟩ (gon a n0 xs ⟨kind, addr, err, aad, used, phase, shard, sought, leaf, bit, word, true, 0, tries, item, stamp⟩)) = w4 at H O R K ⊢
  refine bodyPost_ret (v := .agg (opv ⟨A0, n0, c0, A1, n1, c1, A2, n2, c2, A3, n3, c3⟩ (gon a n0 xs ⟨kind, addr, err, aad, used, phase, shard, sought, leaf, bit, word, true, 0, tries, item, stamp⟩))) ?_ rfl ?_
  · exact results_cell_row (fn := Try.f80) Try.results80 _ _ gR _ _ (0, 0) _ rfl R Try.underlying44 rfl op_sz
  exact ⟨rfl, K⟩
set_option maxHeartbeats 1000000 in
theorem done_2 (h0 : s.at_ = 0) (h1 : s.full = true) (h2 : s.word = msk 64) :
    Calls Try.prog 80 #[.agg #[.int .u32 a, .int .i64 p, .slice A n c, .int .i64 sh, .int .i64 wo, .int .i64 qu, .int .i64 tr], .agg (opv h s)] w (RetOp h (root_ s) w) := by
  have T := fun w => Lib.hid (mask_any 64 (by omega) w)
  rcases s with ⟨kind, addr, err, aad, used, phase, shard, sought, leaf, bit, word, full, at_, tries, item, stamp⟩
  rcases h with ⟨A0, n0, c0, A1, n1, c1, A2, n2, c2, A3, n3, c3⟩
  dsimp only at *
  subst h0 h1 h2
  have e0 : (((msk 64 : Nat) : Int) != (msk 64 : Nat)) = false := by simp
  go_enter Try.func80, Try.ntmps80
  go_upto_region 1 with (fail)
  have K := below_alloc w (.cells #[.int .u32 a, .int .i64 p, .slice A n c, .int .i64 sh, .int .i64 wo, .int .i64 qu, .int .i64 tr] 27)
  have H : Bk (World.alloc (w) (.cells #[.int .u32 a, .int .i64 p, .slice A n c, .int .i64 sh, .int .i64 wo, .int .i64 qu, .int .i64 tr] 27)) (World.heap (w)).size 27 (#[.int .u32 a, .int .i64 p, .slice A n c, .int .i64 sh, .int .i64 wo, .int .i64 qu, .int .i64 tr]) := Bk.new _ _ _
  replace H := H.alloc (.cells (opv ⟨A0, n0, c0, A1, n1, c1, A2, n2, c2, A3, n3, c3⟩ ⟨kind, addr, err, aad, used, phase, shard, sought, leaf, bit, (msk 64), true, 0, tries, item, stamp⟩) 44)
  replace K := Below.then_ K (below_alloc _ (.cells (opv ⟨A0, n0, c0, A1, n1, c1, A2, n2, c2, A3, n3, c3⟩ ⟨kind, addr, err, aad, used, phase, shard, sought, leaf, bit, (msk 64), true, 0, tries, item, stamp⟩) 44))
  have O : Bk (World.alloc ((w).alloc (.cells #[.int .u32 a, .int .i64 p, .slice A n c, .int .i64 sh, .int .i64 wo, .int .i64 qu, .int .i64 tr] 27)) (.cells (opv ⟨A0, n0, c0, A1, n1, c1, A2, n2, c2, A3, n3, c3⟩ ⟨kind, addr, err, aad, used, phase, shard, sought, leaf, bit, (msk 64), true, 0, tries, item, stamp⟩) 44)) (World.heap ((w).alloc (.cells #[.int .u32 a, .int .i64 p, .slice A n c, .int .i64 sh, .int .i64 wo, .int .i64 qu, .int .i64 tr] 27))).size 44 (opv ⟨A0, n0, c0, A1, n1, c1, A2, n2, c2, A3, n3, c3⟩ ⟨kind, addr, err, aad, used, phase, shard, sought, leaf, bit, (msk 64), true, 0, tries, item, stamp⟩) := Bk.new _ _ _
  replace H := H.alloc (.cells #[.int .i64 0, .int .u32 0, .slice none 0 0, .int .i64 0, .int .u32 0, .bool false, .slice none 0 0, .slice none 0 0, .int .i64 0, .int .i64 0, .int .i64 0, .int .i64 0, .int .i64 0, .int .u64 0, .bool false, .slice none 0 0, .int .i64 0, .int .i64 0, .int .i64 0, .int .i64 0] 44)
  replace O := O.alloc (.cells #[.int .i64 0, .int .u32 0, .slice none 0 0, .int .i64 0, .int .u32 0, .bool false, .slice none 0 0, .slice none 0 0, .int .i64 0, .int .i64 0, .int .i64 0, .int .i64 0, .int .i64 0, .int .u64 0, .bool false, .slice none 0 0, .int .i64 0, .int .i64 0, .int .i64 0, .int .i64 0] 44)
  replace K := Below.then_ K (below_alloc _ (.cells #[.int .i64 0, .int .u32 0, .slice none 0 0, .int .i64 0, .int .u32 0, .bool false, .slice none 0 0, .slice none 0 0, .int .i64 0, .int .i64 0, .int .i64 0, .int .i64 0, .int .i64 0, .int .u64 0, .bool false, .slice none 0 0, .int .i64 0, .int .i64 0, .int .i64 0, .int .i64 0] 44))
  have R : Bk (World.alloc (((w).alloc (.cells #[.int .u32 a, .int .i64 p, .slice A n c, .int .i64 sh, .int .i64 wo, .int .i64 qu, .int .i64 tr] 27)).alloc (.cells (opv ⟨A0, n0, c0, A1, n1, c1, A2, n2, c2, A3, n3, c3⟩ ⟨kind, addr, err, aad, used, phase, shard, sought, leaf, bit, (msk 64), true, 0, tries, item, stamp⟩) 44)) (.cells #[.int .i64 0, .int .u32 0, .slice none 0 0, .int .i64 0, .int .u32 0, .bool false, .slice none 0 0, .slice none 0 0, .int .i64 0, .int .i64 0, .int .i64 0, .int .i64 0, .int .i64 0, .int .u64 0, .bool false, .slice none 0 0, .int .i64 0, .int .i64 0, .int .i64 0, .int .i64 0] 44)) (World.heap (((w).alloc (.cells #[.int .u32 a, .int .i64 p, .slice A n c, .int .i64 sh, .int .i64 wo, .int .i64 qu, .int .i64 tr] 27)).alloc (.cells (opv ⟨A0, n0, c0, A1, n1, c1, A2, n2, c2, A3, n3, c3⟩ ⟨kind, addr, err, aad, used, phase, shard, sought, leaf, bit, (msk 64), true, 0, tries, item, stamp⟩) 44))).size 44 (opv hd0 sc0) := Bk.new _ _ _
  try simp only [World.size_alloc] at H O R
  generalize (((w).alloc (.cells #[.int .u32 a, .int .i64 p, .slice A n c, .int .i64 sh, .int .i64 wo, .int .i64 qu, .int .i64 tr] 27)).alloc (.cells (opv ⟨A0, n0, c0, A1, n1, c1, A2, n2, c2, A3, n3, c3⟩ ⟨kind, addr, err, aad, used, phase, shard, sought, leaf, bit, (msk 64), true, 0, tries, item, stamp⟩) 44)).alloc (.cells #[.int .i64 0, .int .u32 0, .slice none 0 0, .int .i64 0, .int .u32 0, .bool false, .slice none 0 0, .slice none 0 0, .int .i64 0, .int .i64 0, .int .i64 0, .int .i64 0, .int .i64 0, .int .u64 0, .bool false, .slice none 0 0, .int .i64 0, .int .i64 0, .int .i64 0, .int .i64 0] 44) = w1 at H O R K ⊢
  obtain ⟨gR, hgR⟩ : ∃ g, g = w.heap.size + 1 + 1 := ⟨_, rfl⟩
  rw [← hgR] at R ⊢
  obtain ⟨gO, hgO⟩ : ∃ g, g = w.heap.size + 1 := ⟨_, rfl⟩
  rw [← hgO] at O ⊢
  obtain ⟨gH, hgH⟩ : ∃ g, g = w.heap.size := ⟨_, rfl⟩
  rw [← hgH] at H ⊢
  have H_b : w.heap.size ≤ gH := by omega
  have O_b : w.heap.size ≤ gO := by omega
  have R_b : w.heap.size ≤ gR := by omega
  have ne_H_O : gH ≠ gO := by omega
  have ne_H_R : gH ≠ gR := by omega
  have ne_O_R : gO ≠ gR := by omega
  clear hgH hgO hgR
  refine wp_region_held_drew (S := fun w' => Below w.heap.size w w' ∧ Bk w' gH 27 (#[.int .u32 a, .int .i64 p, .slice A n c, .int .i64 sh, .int .i64 wo, .int .i64 qu, .int .i64 tr]) ∧ Bk w' gO 44 (opv ⟨A0, n0, c0, A1, n1, c1, A2, n2, c2, A3, n3, c3⟩ ⟨kind, addr, err, aad, used, phase, shard, sought, leaf, bit, (msk 64), true, 0, tries, item, stamp⟩) ∧ Bk w' gR 44 (opv hd0 sc0) ∧ True) (by kernel_rfl) ⟨K.drew, H.below ((Below.refl _ _).drew), O.below ((Below.refl _ _).drew), R.below ((Below.refl _ _).drew), trivial⟩ (fun hHeld => ?_)
  generalize w1.drew = v2 at hHeld ⊢
  refine wpAnyH_take (i := 0) (oi := ⟨some 5, _, _, _, _, _⟩) (v := ?_) rfl (by kernel_rfl) (by kernel_rfl) (by kernel_rfl) (fun _ _ _ h => h) (Or.inl ⟨by rfl, ?_⟩) hHeld ?_
  rotate_left
  · intro ww hSw
    try dsimp only at hSw
    go_simp
    try with_reducible rfl
    try omega
  try simp only [Act.put, List.setIfInBounds_toArray, List.set_cons_zero, List.set_cons_succ]
  refine wpAnyH_take (i := 1) (oi := ⟨some 6, _, _, _, _, _⟩) (v := ?_) rfl (by kernel_rfl) (by kernel_rfl) (by kernel_rfl) (fun _ _ _ h => h) (Or.inl ⟨by rfl, ?_⟩) hHeld ?_
  rotate_left
  · intro ww hSw
    try dsimp only at hSw
    have O_16 := hSw.2.2.1.at_ (v := .int .i64 (0)) 16 rfl
    have O_14 := hSw.2.2.1.at_ (v := .bool (true)) 14 rfl
    have O_13 := hSw.2.2.1.at_ (v := .int .u64 (((msk 64) : Nat) : Int)) 13 rfl
    go_simp
    try with_reducible rfl
    try omega
  try simp only [Act.put, List.setIfInBounds_toArray, List.set_cons_zero, List.set_cons_succ]
  refine wpAnyH_take (i := 2) (oi := ⟨some 7, _, _, _, _, _⟩) (v := .bool false) rfl (by kernel_rfl) (by kernel_rfl) (by kernel_rfl) (fun _ _ _ h => h) (Or.inl ⟨by rfl, ?_⟩) hHeld ?_
  · intro ww hSw
    try dsimp only at hSw
    go_simp
    try with_reducible rfl
    try omega
  try simp only [Act.put, List.setIfInBounds_toArray, List.set_cons_zero, List.set_cons_succ]
  refine wpAnyH_take (i := 3) (oi := ⟨some 8, _, _, _, _, _⟩) (v := .bool false) rfl (by kernel_rfl) (by kernel_rfl) (by kernel_rfl) (fun _ _ _ h => h) (Or.inl ⟨by rfl, ?_⟩) hHeld ?_
  · intro ww hSw
    try dsimp only at hSw
    go_simp
    try with_reducible rfl
    try omega
  try simp only [Act.put, List.setIfInBounds_toArray, List.set_cons_zero, List.set_cons_succ]
  refine wpAnyH_take (i := 4) (oi := ⟨some 9, _, _, _, _, _⟩) (v := ?_) rfl (by kernel_rfl) (by kernel_rfl) (by kernel_rfl) (fun _ _ _ h => h) (Or.inl ⟨by rfl, ?_⟩) hHeld ?_
  rotate_left
  · intro ww hSw
    try dsimp only at hSw
    go_simp
    try with_reducible rfl
    try omega
  try simp only [Act.put, List.setIfInBounds_toArray, List.set_cons_zero, List.set_cons_succ]
  refine wpAnyH_take (i := 5) (oi := ⟨some 10, _, _, _, _, _⟩) (v := .bool true) rfl (by kernel_rfl) (by kernel_rfl) (by kernel_rfl) (fun _ _ _ h => h) (Or.inl ⟨by rfl, ?_⟩) hHeld ?_
  · intro ww hSw
    try dsimp only at hSw
    have O_16 := hSw.2.2.1.at_ (v := .int .i64 (0)) 16 rfl
    have O_14 := hSw.2.2.1.at_ (v := .bool (true)) 14 rfl
    have O_13 := hSw.2.2.1.at_ (v := .int .u64 (((msk 64) : Nat) : Int)) 13 rfl
    go_simp
    try with_reducible rfl
    try omega
  try simp only [Act.put, List.setIfInBounds_toArray, List.set_cons_zero, List.set_cons_succ]
  refine wpAnyH_take (i := 6) (oi := ⟨some 11, _, _, _, _, _⟩) (v := .bool true) rfl (by kernel_rfl) (by kernel_rfl) (by kernel_rfl) (fun _ _ _ h => h) (Or.inl ⟨by rfl, ?_⟩) hHeld ?_
  · intro ww hSw
    try dsimp only at hSw
    go_simp
    try with_reducible rfl
    try omega
  try simp only [Act.put, List.setIfInBounds_toArray, List.set_cons_zero, List.set_cons_succ]
  refine wpAnyH_take (i := 7) (oi := ⟨some 12, _, _, _, _, _⟩) (v := ?_) rfl (by kernel_rfl) (by kernel_rfl) (by kernel_rfl) (fun _ _ _ h => h) (Or.inl ⟨by rfl, ?_⟩) hHeld ?_
  rotate_left
  · intro ww hSw
    try dsimp only at hSw
    go_simp
    try with_reducible rfl
    try omega
  try simp only [Act.put, List.setIfInBounds_toArray, List.set_cons_zero, List.set_cons_succ]
  refine wpAnyH_take (i := 8) (oi := ⟨some 13, _, _, _, _, _⟩) (v := ?_) rfl (by kernel_rfl) (by kernel_rfl) (by kernel_rfl) (fun _ _ _ h => h) (Or.inl ⟨by rfl, ?_⟩) hHeld ?_
  rotate_left
  · intro ww hSw
    try dsimp only at hSw
    have O_16 := hSw.2.2.1.at_ (v := .int .i64 (0)) 16 rfl
    have O_14 := hSw.2.2.1.at_ (v := .bool (true)) 14 rfl
    have O_13 := hSw.2.2.1.at_ (v := .int .u64 (((msk 64) : Nat) : Int)) 13 rfl
    go_simp
    try with_reducible rfl
    try omega
  try simp only [Act.put, List.setIfInBounds_toArray, List.set_cons_zero, List.set_cons_succ]
  refine wpAnyH_ready (rs := [9]) (by kernel_rfl) (by simp) ?_
  refine AllReadyH.cons (o := ⟨some 14, _, _, _, _, _⟩) rfl (fun K0 hK => ?_) AllReadyH.nil
  go_simp
  refine ((T _).out).mono ?_
  rintro e _ ⟨rfl, rfl⟩
  refine hK.out _ _ hHeld (fun hHeld' => ?_)
  clear hHeld hK K0
  have hHeld := hHeld'
  clear hHeld'
  try simp only [Act.put, List.setIfInBounds_toArray, List.set_cons_zero, List.set_cons_succ]
  refine wpAnyH_take (i := 10) (oi := ⟨some 15, _, _, _, _, _⟩) (v := .bool false) rfl (by kernel_rfl) (by kernel_rfl) (by kernel_rfl) (fun _ _ _ h => h) (Or.inl ⟨by rfl, ?_⟩) hHeld ?_
  · intro ww hSw
    try dsimp only at hSw
    go_simp
    try with_reducible rfl
    try omega
  try simp only [Act.put, List.setIfInBounds_toArray, List.set_cons_zero, List.set_cons_succ]
  refine wpAnyH_take (i := 11) (oi := ⟨some 16, _, _, _, _, _⟩) (v := .bool false) rfl (by kernel_rfl) (by kernel_rfl) (by kernel_rfl) (fun _ _ _ h => h) (Or.inl ⟨by rfl, ?_⟩) hHeld ?_
  · intro ww hSw
    try dsimp only at hSw
    go_simp
    try with_reducible rfl
    try omega
  try simp only [Act.put, List.setIfInBounds_toArray, List.set_cons_zero, List.set_cons_succ]
  refine wpAnyH_take (i := 12) (oi := ⟨some 17, _, _, _, _, _⟩) (v := .bool false) rfl (by kernel_rfl) (by kernel_rfl) (by kernel_rfl) (fun _ _ _ h => h) (Or.inl ⟨by rfl, ?_⟩) hHeld ?_
  · intro ww hSw
    try dsimp only at hSw
    go_simp
    try with_reducible rfl
    try omega
  try simp only [Act.put, List.setIfInBounds_toArray, List.set_cons_zero, List.set_cons_succ]
  refine wpAnyH_done (by kernel_rfl) ?_ _
  replace K := hHeld.1
  replace H := hHeld.2.1
  replace O := hHeld.2.2.1
  replace R := hHeld.2.2.2.1
  clear hHeld
  have O_8 := O.at_ (v := .int .i64 (phase)) 8 rfl
  have O_16 := O.at_ (v := .int .i64 (0)) 16 rfl
  have O_z := O.lt
  have O_f8 := O.fz 8
  have O_f16 := O.fz 16
  go_upto_region 4 with (fail)
  replace H := H.far (p := ⟨gO, 8, none⟩) ne_H_O (.int .i64 4)
  replace R := R.far (p := ⟨gO, 8, none⟩) (Ne.symm ne_O_R) (.int .i64 4)
  replace O := O.set_ 8 (.int .i64 4)
  replace K := K.setCell (p := ⟨gO, 8, none⟩) O_b (.int .i64 4)
  replace H := H.far (p := ⟨gO, 16, none⟩) ne_H_O (.int .i64 1)
  replace R := R.far (p := ⟨gO, 16, none⟩) (Ne.symm ne_O_R) (.int .i64 1)
  replace O := O.set_ 16 (.int .i64 1)
  replace K := K.setCell (p := ⟨gO, 16, none⟩) O_b (.int .i64 1)
  replace O : Bk (((v2).setCell ⟨gO, 8, none⟩ (.int .i64 4)).setCell ⟨gO, 16, none⟩ (.int .i64 1)) gO 44 (opv ⟨A0, n0, c0, A1, n1, c1, A2, n2, c2, A3, n3, c3⟩ ⟨kind, addr, err, aad, used, 4, shard, sought, leaf, bit, (msk 64), true, 1, tries, item, stamp⟩) := O
  clear O_8 O_16 O_z O_f8 O_f16
  generalize ((v2).setCell ⟨gO, 8, none⟩ (.int .i64 4)).setCell ⟨gO, 16, none⟩ (.int .i64 1) = w3 at H O R K ⊢
  go_wp2_with (first | (refine wpList_load_row rfl 44 (.tmp 3) rfl gO rfl _ _ (0, 0) _ O Try.underlying44 rfl op_sz ?_) | (refine wpList_store_row rfl 44 (.tmp 4) (.tmp 23) rfl gR _ rfl rfl _ _ R op_sz rfl (opv_one _ _) ?_))
  replace H := H.row_far ne_H_R (opv ⟨A0, n0, c0, A1, n1, c1, A2, n2, c2, A3, n3, c3⟩ ⟨kind, addr, err, aad, used, 4, shard, sought, leaf, bit, (msk 64), true, 1, tries, item, stamp⟩)
  replace O := O.row_far ne_O_R (opv ⟨A0, n0, c0, A1, n1, c1, A2, n2, c2, A3, n3, c3⟩ ⟨kind, addr, err, aad, used, 4, shard, sought, leaf, bit, (msk 64), true, 1, tries, item, stamp⟩)
  replace R := R.row (opv ⟨A0, n0, c0, A1, n1, c1, A2, n2, c2, A3, n3, c3⟩ ⟨kind, addr, err, aad, used, 4, shard, sought, leaf, bit, (msk 64), true, 1, tries, item, stamp⟩)
  replace K := below_setRow K R_b (opv ⟨A0, n0, c0, A1, n1, c1, A2, n2, c2, A3, n3, c3⟩ ⟨kind, addr, err, aad, used, 4, shard, sought, leaf, bit, (msk 64), true, 1, tries, item, stamp⟩)
  generalize w3.setRow gR (opv ⟨A0, n0, c0, A1, n1, c1, A2, n2, c2, A3, n3, c3⟩ ⟨kind, addr, err, aad, used, 4, shard, sought, leaf, bit, (msk 64), true, 1, tries, item, stamp⟩) = w4 at H O R K ⊢
  refine bodyPost_ret (v := .agg (opv ⟨A0, n0, c0, A1, n1, c1, A2, n2, c2, A3, n3, c3⟩ ⟨kind, addr, err, aad, used, 4, shard, sought, leaf, bit, (msk 64), true, 1, tries, item, stamp⟩)) ?_ rfl ?_
  · exact results_cell_row (fn := Try.f80) Try.results80 _ _ gR _ _ (0, 0) _ rfl R Try.underlying44 rfl op_sz
  exact ⟨rfl, K⟩
set_option maxHeartbeats 1000000 in
theorem done_3 (h0 : s.at_ = 0) (h1 : s.full = false) :
    Calls Try.prog 80 #[.agg #[.int .u32 a, .int .i64 p, .slice A n c, .int .i64 sh, .int .i64 wo, .int .i64 qu, .int .i64 tr], .agg (opv h s)] w (RetOp h (root_ s) w) := by
  have T := fun w => Lib.hid (mask_any 64 (by omega) w)
  rcases s with ⟨kind, addr, err, aad, used, phase, shard, sought, leaf, bit, word, full, at_, tries, item, stamp⟩
  rcases h with ⟨A0, n0, c0, A1, n1, c1, A2, n2, c2, A3, n3, c3⟩
  dsimp only at *
  subst h0 h1
  go_enter Try.func80, Try.ntmps80
  go_upto_region 1 with (fail)
  have K := below_alloc w (.cells #[.int .u32 a, .int .i64 p, .slice A n c, .int .i64 sh, .int .i64 wo, .int .i64 qu, .int .i64 tr] 27)
  have H : Bk (World.alloc (w) (.cells #[.int .u32 a, .int .i64 p, .slice A n c, .int .i64 sh, .int .i64 wo, .int .i64 qu, .int .i64 tr] 27)) (World.heap (w)).size 27 (#[.int .u32 a, .int .i64 p, .slice A n c, .int .i64 sh, .int .i64 wo, .int .i64 qu, .int .i64 tr]) := Bk.new _ _ _
  replace H := H.alloc (.cells (opv ⟨A0, n0, c0, A1, n1, c1, A2, n2, c2, A3, n3, c3⟩ ⟨kind, addr, err, aad, used, phase, shard, sought, leaf, bit, word, false, 0, tries, item, stamp⟩) 44)
  replace K := Below.then_ K (below_alloc _ (.cells (opv ⟨A0, n0, c0, A1, n1, c1, A2, n2, c2, A3, n3, c3⟩ ⟨kind, addr, err, aad, used, phase, shard, sought, leaf, bit, word, false, 0, tries, item, stamp⟩) 44))
  have O : Bk (World.alloc ((w).alloc (.cells #[.int .u32 a, .int .i64 p, .slice A n c, .int .i64 sh, .int .i64 wo, .int .i64 qu, .int .i64 tr] 27)) (.cells (opv ⟨A0, n0, c0, A1, n1, c1, A2, n2, c2, A3, n3, c3⟩ ⟨kind, addr, err, aad, used, phase, shard, sought, leaf, bit, word, false, 0, tries, item, stamp⟩) 44)) (World.heap ((w).alloc (.cells #[.int .u32 a, .int .i64 p, .slice A n c, .int .i64 sh, .int .i64 wo, .int .i64 qu, .int .i64 tr] 27))).size 44 (opv ⟨A0, n0, c0, A1, n1, c1, A2, n2, c2, A3, n3, c3⟩ ⟨kind, addr, err, aad, used, phase, shard, sought, leaf, bit, word, false, 0, tries, item, stamp⟩) := Bk.new _ _ _
  replace H := H.alloc (.cells #[.int .i64 0, .int .u32 0, .slice none 0 0, .int .i64 0, .int .u32 0, .bool false, .slice none 0 0, .slice none 0 0, .int .i64 0, .int .i64 0, .int .i64 0, .int .i64 0, .int .i64 0, .int .u64 0, .bool false, .slice none 0 0, .int .i64 0, .int .i64 0, .int .i64 0, .int .i64 0] 44)
  replace O := O.alloc (.cells #[.int .i64 0, .int .u32 0, .slice none 0 0, .int .i64 0, .int .u32 0, .bool false, .slice none 0 0, .slice none 0 0, .int .i64 0, .int .i64 0, .int .i64 0, .int .i64 0, .int .i64 0, .int .u64 0, .bool false, .slice none 0 0, .int .i64 0, .int .i64 0, .int .i64 0, .int .i64 0] 44)
  replace K := Below.then_ K (below_alloc _ (.cells #[.int .i64 0, .int .u32 0, .slice none 0 0, .int .i64 0, .int .u32 0, .bool false, .slice none 0 0, .slice none 0 0, .int .i64 0, .int .i64 0, .int .i64 0, .int .i64 0, .int .i64 0, .int .u64 0, .bool false, .slice none 0 0, .int .i64 0, .int .i64 0, .int .i64 0, .int .i64 0] 44))
  have R : Bk (World.alloc (((w).alloc (.cells #[.int .u32 a, .int .i64 p, .slice A n c, .int .i64 sh, .int .i64 wo, .int .i64 qu, .int .i64 tr] 27)).alloc (.cells (opv ⟨A0, n0, c0, A1, n1, c1, A2, n2, c2, A3, n3, c3⟩ ⟨kind, addr, err, aad, used, phase, shard, sought, leaf, bit, word, false, 0, tries, item, stamp⟩) 44)) (.cells #[.int .i64 0, .int .u32 0, .slice none 0 0, .int .i64 0, .int .u32 0, .bool false, .slice none 0 0, .slice none 0 0, .int .i64 0, .int .i64 0, .int .i64 0, .int .i64 0, .int .i64 0, .int .u64 0, .bool false, .slice none 0 0, .int .i64 0, .int .i64 0, .int .i64 0, .int .i64 0] 44)) (World.heap (((w).alloc (.cells #[.int .u32 a, .int .i64 p, .slice A n c, .int .i64 sh, .int .i64 wo, .int .i64 qu, .int .i64 tr] 27)).alloc (.cells (opv ⟨A0, n0, c0, A1, n1, c1, A2, n2, c2, A3, n3, c3⟩ ⟨kind, addr, err, aad, used, phase, shard, sought, leaf, bit, word, false, 0, tries, item, stamp⟩) 44))).size 44 (opv hd0 sc0) := Bk.new _ _ _
  try simp only [World.size_alloc] at H O R
  generalize (((w).alloc (.cells #[.int .u32 a, .int .i64 p, .slice A n c, .int .i64 sh, .int .i64 wo, .int .i64 qu, .int .i64 tr] 27)).alloc (.cells (opv ⟨A0, n0, c0, A1, n1, c1, A2, n2, c2, A3, n3, c3⟩ ⟨kind, addr, err, aad, used, phase, shard, sought, leaf, bit, word, false, 0, tries, item, stamp⟩) 44)).alloc (.cells #[.int .i64 0, .int .u32 0, .slice none 0 0, .int .i64 0, .int .u32 0, .bool false, .slice none 0 0, .slice none 0 0, .int .i64 0, .int .i64 0, .int .i64 0, .int .i64 0, .int .i64 0, .int .u64 0, .bool false, .slice none 0 0, .int .i64 0, .int .i64 0, .int .i64 0, .int .i64 0] 44) = w1 at H O R K ⊢
  obtain ⟨gR, hgR⟩ : ∃ g, g = w.heap.size + 1 + 1 := ⟨_, rfl⟩
  rw [← hgR] at R ⊢
  obtain ⟨gO, hgO⟩ : ∃ g, g = w.heap.size + 1 := ⟨_, rfl⟩
  rw [← hgO] at O ⊢
  obtain ⟨gH, hgH⟩ : ∃ g, g = w.heap.size := ⟨_, rfl⟩
  rw [← hgH] at H ⊢
  have H_b : w.heap.size ≤ gH := by omega
  have O_b : w.heap.size ≤ gO := by omega
  have R_b : w.heap.size ≤ gR := by omega
  have ne_H_O : gH ≠ gO := by omega
  have ne_H_R : gH ≠ gR := by omega
  have ne_O_R : gO ≠ gR := by omega
  clear hgH hgO hgR
  refine wp_region_held_drew (S := fun w' => Below w.heap.size w w' ∧ Bk w' gH 27 (#[.int .u32 a, .int .i64 p, .slice A n c, .int .i64 sh, .int .i64 wo, .int .i64 qu, .int .i64 tr]) ∧ Bk w' gO 44 (opv ⟨A0, n0, c0, A1, n1, c1, A2, n2, c2, A3, n3, c3⟩ ⟨kind, addr, err, aad, used, phase, shard, sought, leaf, bit, word, false, 0, tries, item, stamp⟩) ∧ Bk w' gR 44 (opv hd0 sc0) ∧ True) (by kernel_rfl) ⟨K.drew, H.below ((Below.refl _ _).drew), O.below ((Below.refl _ _).drew), R.below ((Below.refl _ _).drew), trivial⟩ (fun hHeld => ?_)
  generalize w1.drew = v2 at hHeld ⊢
  refine wpAnyH_take (i := 0) (oi := ⟨some 5, _, _, _, _, _⟩) (v := ?_) rfl (by kernel_rfl) (by kernel_rfl) (by kernel_rfl) (fun _ _ _ h => h) (Or.inl ⟨by rfl, ?_⟩) hHeld ?_
  rotate_left
  · intro ww hSw
    try dsimp only at hSw
    go_simp
    try with_reducible rfl
    try omega
  try simp only [Act.put, List.setIfInBounds_toArray, List.set_cons_zero, List.set_cons_succ]
  refine wpAnyH_take (i := 1) (oi := ⟨some 6, _, _, _, _, _⟩) (v := ?_) rfl (by kernel_rfl) (by kernel_rfl) (by kernel_rfl) (fun _ _ _ h => h) (Or.inl ⟨by rfl, ?_⟩) hHeld ?_
  rotate_left
  · intro ww hSw
    try dsimp only at hSw
    have O_16 := hSw.2.2.1.at_ (v := .int .i64 (0)) 16 rfl
    have O_14 := hSw.2.2.1.at_ (v := .bool (false)) 14 rfl
    have O_13 := hSw.2.2.1.at_ (v := .int .u64 ((word : Nat) : Int)) 13 rfl
    go_simp
    try with_reducible rfl
    try omega
  try simp only [Act.put, List.setIfInBounds_toArray, List.set_cons_zero, List.set_cons_succ]
  refine wpAnyH_take (i := 2) (oi := ⟨some 7, _, _, _, _, _⟩) (v := .bool false) rfl (by kernel_rfl) (by kernel_rfl) (by kernel_rfl) (fun _ _ _ h => h) (Or.inl ⟨by rfl, ?_⟩) hHeld ?_
  · intro ww hSw
    try dsimp only at hSw
    go_simp
    try with_reducible rfl
    try omega
  try simp only [Act.put, List.setIfInBounds_toArray, List.set_cons_zero, List.set_cons_succ]
  refine wpAnyH_take (i := 3) (oi := ⟨some 8, _, _, _, _, _⟩) (v := .bool false) rfl (by kernel_rfl) (by kernel_rfl) (by kernel_rfl) (fun _ _ _ h => h) (Or.inl ⟨by rfl, ?_⟩) hHeld ?_
  · intro ww hSw
    try dsimp only at hSw
    go_simp
    try with_reducible rfl
    try omega
  try simp only [Act.put, List.setIfInBounds_toArray, List.set_cons_zero, List.set_cons_succ]
  refine wpAnyH_take (i := 4) (oi := ⟨some 9, _, _, _, _, _⟩) (v := ?_) rfl (by kernel_rfl) (by kernel_rfl) (by kernel_rfl) (fun _ _ _ h => h) (Or.inl ⟨by rfl, ?_⟩) hHeld ?_
  rotate_left
  · intro ww hSw
    try dsimp only at hSw
    go_simp
    try with_reducible rfl
    try omega
  try simp only [Act.put, List.setIfInBounds_toArray, List.set_cons_zero, List.set_cons_succ]
  refine wpAnyH_take (i := 5) (oi := ⟨some 10, _, _, _, _, _⟩) (v := .bool false) rfl (by kernel_rfl) (by kernel_rfl) (by kernel_rfl) (fun _ _ _ h => h) (Or.inl ⟨by rfl, ?_⟩) hHeld ?_
  · intro ww hSw
    try dsimp only at hSw
    have O_16 := hSw.2.2.1.at_ (v := .int .i64 (0)) 16 rfl
    have O_14 := hSw.2.2.1.at_ (v := .bool (false)) 14 rfl
    have O_13 := hSw.2.2.1.at_ (v := .int .u64 ((word : Nat) : Int)) 13 rfl
    go_simp
    try with_reducible rfl
    try omega
  try simp only [Act.put, List.setIfInBounds_toArray, List.set_cons_zero, List.set_cons_succ]
  refine wpAnyH_take (i := 6) (oi := ⟨some 11, _, _, _, _, _⟩) (v := .bool false) rfl (by kernel_rfl) (by kernel_rfl) (by kernel_rfl) (fun _ _ _ h => h) (Or.inl ⟨by rfl, ?_⟩) hHeld ?_
  · intro ww hSw
    try dsimp only at hSw
    go_simp
    try with_reducible rfl
    try omega
  try simp only [Act.put, List.setIfInBounds_toArray, List.set_cons_zero, List.set_cons_succ]
  refine wpAnyH_take (i := 7) (oi := ⟨some 12, _, _, _, _, _⟩) (v := undef) rfl (by kernel_rfl) (by kernel_rfl) (by kernel_rfl) (fun _ _ _ h => h) (Or.inr ⟨by rfl, rfl⟩) hHeld ?_
  try simp only [Act.put, List.setIfInBounds_toArray, List.set_cons_zero, List.set_cons_succ]
  refine wpAnyH_take (i := 8) (oi := ⟨some 13, _, _, _, _, _⟩) (v := undef) rfl (by kernel_rfl) (by kernel_rfl) (by kernel_rfl) (fun _ _ _ h => h) (Or.inr ⟨by rfl, rfl⟩) hHeld ?_
  try simp only [Act.put, List.setIfInBounds_toArray, List.set_cons_zero, List.set_cons_succ]
  refine wpAnyH_take (i := 9) (oi := ⟨some 14, _, _, _, _, _⟩) (v := undef) rfl (by kernel_rfl) (by kernel_rfl) (by kernel_rfl) (fun _ _ _ h => h) (Or.inr ⟨by rfl, rfl⟩) hHeld ?_
  try simp only [Act.put, List.setIfInBounds_toArray, List.set_cons_zero, List.set_cons_succ]
  refine wpAnyH_take (i := 10) (oi := ⟨some 15, _, _, _, _, _⟩) (v := undef) rfl (by kernel_rfl) (by kernel_rfl) (by kernel_rfl) (fun _ _ _ h => h) (Or.inr ⟨by rfl, rfl⟩) hHeld ?_
  try simp only [Act.put, List.setIfInBounds_toArray, List.set_cons_zero, List.set_cons_succ]
  refine wpAnyH_take (i := 11) (oi := ⟨some 16, _, _, _, _, _⟩) (v := .bool false) rfl (by kernel_rfl) (by kernel_rfl) (by kernel_rfl) (fun _ _ _ h => h) (Or.inl ⟨by rfl, ?_⟩) hHeld ?_
  · intro ww hSw
    try dsimp only at hSw
    go_simp
    try with_reducible rfl
    try omega
  try simp only [Act.put, List.setIfInBounds_toArray, List.set_cons_zero, List.set_cons_succ]
  refine wpAnyH_take (i := 12) (oi := ⟨some 17, _, _, _, _, _⟩) (v := .bool false) rfl (by kernel_rfl) (by kernel_rfl) (by kernel_rfl) (fun _ _ _ h => h) (Or.inl ⟨by rfl, ?_⟩) hHeld ?_
  · intro ww hSw
    try dsimp only at hSw
    go_simp
    try with_reducible rfl
    try omega
  try simp only [Act.put, List.setIfInBounds_toArray, List.set_cons_zero, List.set_cons_succ]
  refine wpAnyH_done (by kernel_rfl) ?_ _
  replace K := hHeld.1
  replace H := hHeld.2.1
  replace O := hHeld.2.2.1
  replace R := hHeld.2.2.2.1
  clear hHeld
  have O_8 := O.at_ (v := .int .i64 (phase)) 8 rfl
  have O_16 := O.at_ (v := .int .i64 (0)) 16 rfl
  have O_z := O.lt
  have O_f8 := O.fz 8
  have O_f16 := O.fz 16
  go_upto_region 4 with (fail)
  replace H := H.far (p := ⟨gO, 8, none⟩) ne_H_O (.int .i64 4)
  replace R := R.far (p := ⟨gO, 8, none⟩) (Ne.symm ne_O_R) (.int .i64 4)
  replace O := O.set_ 8 (.int .i64 4)
  replace K := K.setCell (p := ⟨gO, 8, none⟩) O_b (.int .i64 4)
  replace H := H.far (p := ⟨gO, 16, none⟩) ne_H_O (.int .i64 1)
  replace R := R.far (p := ⟨gO, 16, none⟩) (Ne.symm ne_O_R) (.int .i64 1)
  replace O := O.set_ 16 (.int .i64 1)
  replace K := K.setCell (p := ⟨gO, 16, none⟩) O_b (.int .i64 1)
  replace O : Bk (((v2).setCell ⟨gO, 8, none⟩ (.int .i64 4)).setCell ⟨gO, 16, none⟩ (.int .i64 1)) gO 44 (opv ⟨A0, n0, c0, A1, n1, c1, A2, n2, c2, A3, n3, c3⟩ ⟨kind, addr, err, aad, used, 4, shard, sought, leaf, bit, word, false, 1, tries, item, stamp⟩) := O
  clear O_8 O_16 O_z O_f8 O_f16
  generalize ((v2).setCell ⟨gO, 8, none⟩ (.int .i64 4)).setCell ⟨gO, 16, none⟩ (.int .i64 1) = w3 at H O R K ⊢
  go_wp2_with (first | (refine wpList_load_row rfl 44 (.tmp 3) rfl gO rfl _ _ (0, 0) _ O Try.underlying44 rfl op_sz ?_) | (refine wpList_store_row rfl 44 (.tmp 4) (.tmp 23) rfl gR _ rfl rfl _ _ R op_sz rfl (opv_one _ _) ?_))
  replace H := H.row_far ne_H_R (opv ⟨A0, n0, c0, A1, n1, c1, A2, n2, c2, A3, n3, c3⟩ ⟨kind, addr, err, aad, used, 4, shard, sought, leaf, bit, word, false, 1, tries, item, stamp⟩)
  replace O := O.row_far ne_O_R (opv ⟨A0, n0, c0, A1, n1, c1, A2, n2, c2, A3, n3, c3⟩ ⟨kind, addr, err, aad, used, 4, shard, sought, leaf, bit, word, false, 1, tries, item, stamp⟩)
  replace R := R.row (opv ⟨A0, n0, c0, A1, n1, c1, A2, n2, c2, A3, n3, c3⟩ ⟨kind, addr, err, aad, used, 4, shard, sought, leaf, bit, word, false, 1, tries, item, stamp⟩)
  replace K := below_setRow K R_b (opv ⟨A0, n0, c0, A1, n1, c1, A2, n2, c2, A3, n3, c3⟩ ⟨kind, addr, err, aad, used, 4, shard, sought, leaf, bit, word, false, 1, tries, item, stamp⟩)
  generalize w3.setRow gR (opv ⟨A0, n0, c0, A1, n1, c1, A2, n2, c2, A3, n3, c3⟩ ⟨kind, addr, err, aad, used, 4, shard, sought, leaf, bit, word, false, 1, tries, item, stamp⟩) = w4 at H O R K ⊢
  refine bodyPost_ret (v := .agg (opv ⟨A0, n0, c0, A1, n1, c1, A2, n2, c2, A3, n3, c3⟩ ⟨kind, addr, err, aad, used, 4, shard, sought, leaf, bit, word, false, 1, tries, item, stamp⟩)) ?_ rfl ?_
  · exact results_cell_row (fn := Try.f80) Try.results80 _ _ gR _ _ (0, 0) _ rfl R Try.underlying44 rfl op_sz
  exact ⟨rfl, K⟩
theorem done_any (ha : a < 4294967296) (hM : Much a p M) (hn : h.n0 ≤ 65536) (hI : IS .u32 lo w h.A0 h.n0 h.c0 xs) (hin : s.kind = 4 → InB a M h.n0 xs) :
    Calls Try.prog 80 #[.agg #[.int .u32 a, .int .i64 p, .slice A n c, .int .i64 sh, .int .i64 wo, .int .i64 qu, .int .i64 tr], .agg (opv h s)] w (RetOp h (dn a h.n0 xs s) w) := by
  unfold dn
  by_cases h0 : s.at_ = 0
  · cases h1 : s.full with
    | false => rw [if_neg (by unfold ends_; simp [h0, h1])]; exact done_3 h0 h1
    | true =>
      by_cases h2 : s.word = msk 64
      · rw [if_neg (by unfold ends_; rw [← msk64]; simp [h0, h2])]; exact done_2 h0 h1 h2
      · rw [if_pos (by unfold ends_; rw [← msk64]; simp [h1, h2])]; exact done_1 ha hM hn hI hin h0 h1 h2
  · rw [if_pos (by unfold ends_; simp [h0])]; exact done_0 ha hM hn hI hin h0
theorem marked_any (x b : Nat) (f : Bool) (hx : x < 18446744073709551616) (hb : b < 64) (w : World) :
    Calls Try.prog 78 #[.int .u64 x, .int .i64 b, .bool f] w fun e w' => e = .returned (.int .u64 (mkd x b f : Nat)) ∧ w = w' := by
  cases f with
  | true =>
    show Calls Try.prog 78 #[.int .u64 x, .int .i64 b, .bool true] w fun e w' => e = .returned (.int .u64 (setb x b : Nat)) ∧ w = w'
    go_enter Try.func78, Try.ntmps78
    go_wp2_with (go_at_call 45; refine (set_any _ _ hx hb _).mono ?_; rintro e w' ⟨rfl, rfl⟩)
    go_ret
    exact ⟨rfl, rfl⟩
  | false =>
    show Calls Try.prog 78 #[.int .u64 x, .int .i64 b, .bool false] w fun e w' => e = .returned (.int .u64 (clrb x b : Nat)) ∧ w = w'
    go_enter Try.func78, Try.ntmps78
    go_wp2_with (go_at_call 50; refine (clear_any _ _ hx hb _).mono ?_; rintro e w' ⟨rfl, rfl⟩)
    go_ret
    exact ⟨rfl, rfl⟩
end
end Go.Proofs.Ytacgjaohfcoigaa

/-
  What hint.look, hint.Goes and hint.summaries answer. Conditions: at most 65536 addresses, all the block's; words below 2^64; a bit below 64.
-/
namespace Go.Proofs.Ytacgjaohfcoigaa
set_option maxRecDepth 100000
open Go.RowKit
set_option linter.unusedVariables false
theorem IS.uniq {k : IntKind} {lo lo' : Nat} {w : World} {A : Option Addr} {n c : Nat} {xs ys : List Int} (h : IS k lo w A n c xs) (h' : IS k lo' w A n c ys) : xs = ys := by
  have e1 := h.len
  have e2 := h'.len
  refine List.ext_getElem (by omega) fun j h1 h2 => ?_
  obtain ⟨b, o, e, _, q⟩ := h.get (j := j) (by omega)
  obtain ⟨b', o', e', _, q'⟩ := h'.get (j := j) (by omega)
  rw [e] at e'; cases e'
  rw [q] at q'
  have q3 : gi xs j = gi ys j := by injection q' with q'; injection q'
  rw [gi_at h1, gi_at h2] at q3
  exact q3
theorem Lists.asked {lo : Nat} {w : World} {A0 A1 A2 A3 : Option Addr} {n0 n1 n2 n3 c0 c1 c2 c3 : Nat} {l : Ls} {xs : List Int} (L : Lists lo w ⟨A0, n0, c0, A1, n1, c1, A2, n2, c2, A3, n3, c3⟩ l) (e : l.rqs = xs) : IS .u32 lo w A0 n0 c0 xs := e ▸ L.i0
section
variable {w : World} {lo lo2 a M : Nat} {p sh wo qu tr : Int} {A : Option Addr} {n c : Nat} {xs : List Int} {h : Hd} {s : Sc} {l : Ls}
set_option maxHeartbeats 1000000 in
theorem look_y_true (ha : a < 4294967296) (hM : Much a p M) (hn : h.n0 ≤ 65536) (hI : IS .u32 lo w h.A0 h.n0 h.c0 xs) (hin : s.kind = 4 → InB a M h.n0 xs) {x b : Nat} (hx : x < 18446744073709551616) (hb2 : b < 64) (hb : x.testBit b = true) (hfu : s.full = true) :
    Calls Try.prog 77 #[.agg #[.int .u32 a, .int .i64 p, .slice A n c, .int .i64 sh, .int .i64 wo, .int .i64 qu, .int .i64 tr], .agg (opv h s), .int .u64 x, .int .i64 b] w (RetOp h (dn a h.n0 xs (worded s x)) w) := by
  have T := fun w => Lib.hid (hb ▸ has_any x b hx hb2 w)
  clear hb
  have TO := fun w (hI : IS .u32 lo w h.A0 h.n0 h.c0 xs) => Lib.hid (done_any (w := w) (sh := sh) (wo := wo) (qu := qu) (tr := tr) (A := A) (n := n) (c := c) (s := worded s x) ha hM hn hI hin)
  rcases s with ⟨kind, addr, err, aad, used, phase, shard, sought, leaf, bit, word, full, at_, tries, item, stamp⟩
  rcases h with ⟨A0, n0, c0, A1, n1, c1, A2, n2, c2, A3, n3, c3⟩
  dsimp only at *
  subst hfu
  go_enter Try.func77, Try.ntmps77
  go_upto_region 1 with (fail)
  have K := below_alloc w (.cells #[.int .u32 a, .int .i64 p, .slice A n c, .int .i64 sh, .int .i64 wo, .int .i64 qu, .int .i64 tr] 27)
  have H : Bk (World.alloc (w) (.cells #[.int .u32 a, .int .i64 p, .slice A n c, .int .i64 sh, .int .i64 wo, .int .i64 qu, .int .i64 tr] 27)) (World.heap (w)).size 27 (#[.int .u32 a, .int .i64 p, .slice A n c, .int .i64 sh, .int .i64 wo, .int .i64 qu, .int .i64 tr]) := Bk.new _ _ _
  replace H := H.alloc (.cells (opv ⟨A0, n0, c0, A1, n1, c1, A2, n2, c2, A3, n3, c3⟩ ⟨kind, addr, err, aad, used, phase, shard, sought, leaf, bit, word, true, at_, tries, item, stamp⟩) 44)
  replace K := Below.then_ K (below_alloc _ (.cells (opv ⟨A0, n0, c0, A1, n1, c1, A2, n2, c2, A3, n3, c3⟩ ⟨kind, addr, err, aad, used, phase, shard, sought, leaf, bit, word, true, at_, tries, item, stamp⟩) 44))
  have O : Bk (World.alloc ((w).alloc (.cells #[.int .u32 a, .int .i64 p, .slice A n c, .int .i64 sh, .int .i64 wo, .int .i64 qu, .int .i64 tr] 27)) (.cells (opv ⟨A0, n0, c0, A1, n1, c1, A2, n2, c2, A3, n3, c3⟩ ⟨kind, addr, err, aad, used, phase, shard, sought, leaf, bit, word, true, at_, tries, item, stamp⟩) 44)) (World.heap ((w).alloc (.cells #[.int .u32 a, .int .i64 p, .slice A n c, .int .i64 sh, .int .i64 wo, .int .i64 qu, .int .i64 tr] 27))).size 44 (opv ⟨A0, n0, c0, A1, n1, c1, A2, n2, c2, A3, n3, c3⟩ ⟨kind, addr, err, aad, used, phase, shard, sought, leaf, bit, word, true, at_, tries, item, stamp⟩) := Bk.new _ _ _
  replace H := H.alloc (.cells #[.int .i64 0, .int .u32 0, .slice none 0 0, .int .i64 0, .int .u32 0, .bool false, .slice none 0 0, .slice none 0 0, .int .i64 0, .int .i64 0, .int .i64 0, .int .i64 0, .int .i64 0, .int .u64 0, .bool false, .slice none 0 0, .int .i64 0, .int .i64 0, .int .i64 0, .int .i64 0] 44)
  replace O := O.alloc (.cells #[.int .i64 0, .int .u32 0, .slice none 0 0, .int .i64 0, .int .u32 0, .bool false, .slice none 0 0, .slice none 0 0, .int .i64 0, .int .i64 0, .int .i64 0, .int .i64 0, .int .i64 0, .int .u64 0, .bool false, .slice none 0 0, .int .i64 0, .int .i64 0, .int .i64 0, .int .i64 0] 44)
  replace K := Below.then_ K (below_alloc _ (.cells #[.int .i64 0, .int .u32 0, .slice none 0 0, .int .i64 0, .int .u32 0, .bool false, .slice none 0 0, .slice none 0 0, .int .i64 0, .int .i64 0, .int .i64 0, .int .i64 0, .int .i64 0, .int .u64 0, .bool false, .slice none 0 0, .int .i64 0, .int .i64 0, .int .i64 0, .int .i64 0] 44))
  have R : Bk (World.alloc (((w).alloc (.cells #[.int .u32 a, .int .i64 p, .slice A n c, .int .i64 sh, .int .i64 wo, .int .i64 qu, .int .i64 tr] 27)).alloc (.cells (opv ⟨A0, n0, c0, A1, n1, c1, A2, n2, c2, A3, n3, c3⟩ ⟨kind, addr, err, aad, used, phase, shard, sought, leaf, bit, word, true, at_, tries, item, stamp⟩) 44)) (.cells #[.int .i64 0, .int .u32 0, .slice none 0 0, .int .i64 0, .int .u32 0, .bool false, .slice none 0 0, .slice none 0 0, .int .i64 0, .int .i64 0, .int .i64 0, .int .i64 0, .int .i64 0, .int .u64 0, .bool false, .slice none 0 0, .int .i64 0, .int .i64 0, .int .i64 0, .int .i64 0] 44)) (World.heap (((w).alloc (.cells #[.int .u32 a, .int .i64 p, .slice A n c, .int .i64 sh, .int .i64 wo, .int .i64 qu, .int .i64 tr] 27)).alloc (.cells (opv ⟨A0, n0, c0, A1, n1, c1, A2, n2, c2, A3, n3, c3⟩ ⟨kind, addr, err, aad, used, phase, shard, sought, leaf, bit, word, true, at_, tries, item, stamp⟩) 44))).size 44 (opv hd0 sc0) := Bk.new _ _ _
  try simp only [World.size_alloc] at H O R
  generalize (((w).alloc (.cells #[.int .u32 a, .int .i64 p, .slice A n c, .int .i64 sh, .int .i64 wo, .int .i64 qu, .int .i64 tr] 27)).alloc (.cells (opv ⟨A0, n0, c0, A1, n1, c1, A2, n2, c2, A3, n3, c3⟩ ⟨kind, addr, err, aad, used, phase, shard, sought, leaf, bit, word, true, at_, tries, item, stamp⟩) 44)).alloc (.cells #[.int .i64 0, .int .u32 0, .slice none 0 0, .int .i64 0, .int .u32 0, .bool false, .slice none 0 0, .slice none 0 0, .int .i64 0, .int .i64 0, .int .i64 0, .int .i64 0, .int .i64 0, .int .u64 0, .bool false, .slice none 0 0, .int .i64 0, .int .i64 0, .int .i64 0, .int .i64 0] 44) = w1 at H O R K ⊢
  obtain ⟨gR, hgR⟩ : ∃ g, g = w.heap.size + 1 + 1 := ⟨_, rfl⟩
  rw [← hgR] at R ⊢
  obtain ⟨gO, hgO⟩ : ∃ g, g = w.heap.size + 1 := ⟨_, rfl⟩
  rw [← hgO] at O ⊢
  obtain ⟨gH, hgH⟩ : ∃ g, g = w.heap.size := ⟨_, rfl⟩
  rw [← hgH] at H ⊢
  have H_b : w.heap.size ≤ gH := by omega
  have O_b : w.heap.size ≤ gO := by omega
  have R_b : w.heap.size ≤ gR := by omega
  have ne_H_O : gH ≠ gO := by omega
  have ne_H_R : gH ≠ gR := by omega
  have ne_O_R : gO ≠ gR := by omega
  clear hgH hgO hgR
  have O_13 := O.at_ (v := .int .u64 ((word : Nat) : Int)) 13 rfl
  have O_z := O.lt
  have O_f13 := O.fz 13
  go_upto_region 2 with (fail)
  replace H := H.far (p := ⟨gO, 13, none⟩) ne_H_O (.int .u64 (x : Nat))
  replace R := R.far (p := ⟨gO, 13, none⟩) (Ne.symm ne_O_R) (.int .u64 (x : Nat))
  replace O := O.set_ 13 (.int .u64 (x : Nat))
  replace K := K.setCell (p := ⟨gO, 13, none⟩) O_b (.int .u64 (x : Nat))
  replace O : Bk ((w1).setCell ⟨gO, 13, none⟩ (.int .u64 (x : Nat))) gO 44 (opv ⟨A0, n0, c0, A1, n1, c1, A2, n2, c2, A3, n3, c3⟩ ⟨kind, addr, err, aad, used, phase, shard, sought, leaf, bit, x, true, at_, tries, item, stamp⟩) := O
  clear O_13 O_z O_f13
  generalize (w1).setCell ⟨gO, 13, none⟩ (.int .u64 (x : Nat)) = w2 at H O R K ⊢
  refine wp_region_held_drew (S := fun w' => Below w.heap.size w w' ∧ Bk w' gH 27 (#[.int .u32 a, .int .i64 p, .slice A n c, .int .i64 sh, .int .i64 wo, .int .i64 qu, .int .i64 tr]) ∧ Bk w' gO 44 (opv ⟨A0, n0, c0, A1, n1, c1, A2, n2, c2, A3, n3, c3⟩ ⟨kind, addr, err, aad, used, phase, shard, sought, leaf, bit, x, true, at_, tries, item, stamp⟩) ∧ Bk w' gR 44 (opv hd0 sc0) ∧ True) (by kernel_rfl) ⟨K.drew, H.below ((Below.refl _ _).drew), O.below ((Below.refl _ _).drew), R.below ((Below.refl _ _).drew), trivial⟩ (fun hHeld => ?_)
  generalize w2.drew = v3 at hHeld ⊢
  refine wpAnyH_take (i := 0) (oi := ⟨some 11, _, _, _, _, _⟩) (v := ?_) rfl (by kernel_rfl) (by kernel_rfl) (by kernel_rfl) (fun _ _ _ h => h) (Or.inl ⟨by rfl, ?_⟩) hHeld ?_
  rotate_left
  · intro ww hSw
    try dsimp only at hSw
    go_simp
    try with_reducible rfl
    try omega
  try simp only [Act.put, List.setIfInBounds_toArray, List.set_cons_zero, List.set_cons_succ]
  refine wpAnyH_take (i := 1) (oi := ⟨some 12, _, _, _, _, _⟩) (v := ?_) rfl (by kernel_rfl) (by kernel_rfl) (by kernel_rfl) (fun _ _ _ h => h) (Or.inl ⟨by rfl, ?_⟩) hHeld ?_
  rotate_left
  · intro ww hSw
    try dsimp only at hSw
    go_simp
    try with_reducible rfl
    try omega
  try simp only [Act.put, List.setIfInBounds_toArray, List.set_cons_zero, List.set_cons_succ]
  refine wpAnyH_take (i := 3) (oi := ⟨some 14, _, _, _, _, _⟩) (v := ?_) rfl (by kernel_rfl) (by kernel_rfl) (by kernel_rfl) (fun _ _ _ h => h) (Or.inl ⟨by rfl, ?_⟩) hHeld ?_
  rotate_left
  · intro ww hSw
    try dsimp only at hSw
    go_simp
    try with_reducible rfl
    try omega
  try simp only [Act.put, List.setIfInBounds_toArray, List.set_cons_zero, List.set_cons_succ]
  refine wpAnyH_take (i := 4) (oi := ⟨some 15, _, _, _, _, _⟩) (v := .bool true) rfl (by kernel_rfl) (by kernel_rfl) (by kernel_rfl) (fun _ _ _ h => h) (Or.inl ⟨by rfl, ?_⟩) hHeld ?_
  · intro ww hSw
    try dsimp only at hSw
    have O_14 := hSw.2.2.1.at_ (v := .bool true) 14 rfl
    go_simp
    try with_reducible rfl
    try omega
  try simp only [Act.put, List.setIfInBounds_toArray, List.set_cons_zero, List.set_cons_succ]
  refine wpAnyH_ready (rs := [2]) (by kernel_rfl) (by simp) ?_
  refine AllReadyH.cons (o := ⟨some 13, _, _, _, _, _⟩) rfl (fun K0 hK => ?_) AllReadyH.nil
  go_simp
  refine ((T _).out).mono ?_
  rintro e _ ⟨rfl, rfl⟩
  refine hK.out _ _ hHeld (fun hHeld' => ?_)
  clear hHeld hK K0
  have hHeld := hHeld'
  clear hHeld'
  try simp only [Act.put, List.setIfInBounds_toArray, List.set_cons_zero, List.set_cons_succ]
  refine wpAnyH_take (i := 5) (oi := ⟨some 16, _, _, _, _, _⟩) (v := .bool true) rfl (by kernel_rfl) (by kernel_rfl) (by kernel_rfl) (fun _ _ _ h => h) (Or.inl ⟨by rfl, ?_⟩) hHeld ?_
  · intro ww hSw
    try dsimp only at hSw
    go_simp
    try with_reducible rfl
    try omega
  try simp only [Act.put, List.setIfInBounds_toArray, List.set_cons_zero, List.set_cons_succ]
  refine wpAnyH_done (by kernel_rfl) ?_ _
  replace K := hHeld.1
  replace H := hHeld.2.1
  replace O := hHeld.2.2.1
  replace R := hHeld.2.2.2.1
  clear hHeld
  go_wp2_with (first | (refine wpList_load_row rfl 27 (.tmp 4) rfl gH rfl _ _ (0, 0) _ H Try.underlying27 rfl cf_sz ?_) | (refine wpList_load_row rfl 44 (.tmp 5) rfl gO rfl _ _ (0, 0) _ O Try.underlying44 rfl op_sz ?_))
  refine ((TO _ (hI.below K)).out).mono ?_
  rintro e w4 ⟨rfl, K'⟩
  replace H := H.below K'
  replace O := O.below K'
  replace R := R.below K'
  replace K := Below.then_ K K'
  clear K'
  go_wp2_with (refine wpList_store_row rfl 44 (.tmp 8) (.tmp 19) rfl gR _ rfl rfl _ _ R op_sz rfl (opv_one _ _) ?_)
  replace H := H.row_far ne_H_R (opv ⟨A0, n0, c0, A1, n1, c1, A2, n2, c2, A3, n3, c3⟩ (dn a n0 xs (worded ⟨kind, addr, err, aad, used, phase, shard, sought, leaf, bit, word, true, at_, tries, item, stamp⟩ x)))
  replace O := O.row_far ne_O_R (opv ⟨A0, n0, c0, A1, n1, c1, A2, n2, c2, A3, n3, c3⟩ (dn a n0 xs (worded ⟨kind, addr, err, aad, used, phase, shard, sought, leaf, bit, word, true, at_, tries, item, stamp⟩ x)))
  replace R := R.row (opv ⟨A0, n0, c0, A1, n1, c1, A2, n2, c2, A3, n3, c3⟩ (dn a n0 xs (worded ⟨kind, addr, err, aad, used, phase, shard, sought, leaf, bit, word, true, at_, tries, item, stamp⟩ x)))
  replace K := below_setRow K R_b (opv ⟨A0, n0, c0, A1, n1, c1, A2, n2, c2, A3, n3, c3⟩ (dn a n0 xs (worded ⟨kind, addr, err, aad, used, phase, shard, sought, leaf, bit, word, true, at_, tries, item, stamp⟩ x)))
  generalize w4.setRow gR (opv ⟨A0, n0, c0, A1, n1, c1, A2, n2, c2, A3, n3, c3⟩ (dn a n0 xs (worded ⟨kind, addr, err, aad, used, phase, shard, sought, leaf, bit, word, true, at_, tries, item, stamp⟩ x))) = w5 at H O R K ⊢
  refine bodyPost_ret (v := .agg (opv ⟨A0, n0, c0, A1, n1, c1, A2, n2, c2, A3, n3, c3⟩ (dn a n0 xs (worded ⟨kind, addr, err, aad, used, phase, shard, sought, leaf, bit, word, true, at_, tries, item, stamp⟩ x)))) ?_ rfl ?_
  · exact results_cell_row (fn := Try.f77) Try.results77 _ _ gR _ _ (0, 0) _ rfl R Try.underlying44 rfl op_sz
  exact ⟨rfl, K⟩
set_option maxHeartbeats 1000000 in
theorem look_y_false (ha : a < 4294967296) (hM : Much a p M) (hn : h.n0 ≤ 65536) (hI : IS .u32 lo w h.A0 h.n0 h.c0 xs) (hin : s.kind = 4 → InB a M h.n0 xs) {x b : Nat} (hx : x < 18446744073709551616) (hb2 : b < 64) (hb : x.testBit b = false) (hfu : s.full = false) :
    Calls Try.prog 77 #[.agg #[.int .u32 a, .int .i64 p, .slice A n c, .int .i64 sh, .int .i64 wo, .int .i64 qu, .int .i64 tr], .agg (opv h s), .int .u64 x, .int .i64 b] w (RetOp h (dn a h.n0 xs (worded s x)) w) := by
  have T := fun w => Lib.hid (hb ▸ has_any x b hx hb2 w)
  clear hb
  have TO := fun w (hI : IS .u32 lo w h.A0 h.n0 h.c0 xs) => Lib.hid (done_any (w := w) (sh := sh) (wo := wo) (qu := qu) (tr := tr) (A := A) (n := n) (c := c) (s := worded s x) ha hM hn hI hin)
  rcases s with ⟨kind, addr, err, aad, used, phase, shard, sought, leaf, bit, word, full, at_, tries, item, stamp⟩
  rcases h with ⟨A0, n0, c0, A1, n1, c1, A2, n2, c2, A3, n3, c3⟩
  dsimp only at *
  subst hfu
  go_enter Try.func77, Try.ntmps77
  go_upto_region 1 with (fail)
  have K := below_alloc w (.cells #[.int .u32 a, .int .i64 p, .slice A n c, .int .i64 sh, .int .i64 wo, .int .i64 qu, .int .i64 tr] 27)
  have H : Bk (World.alloc (w) (.cells #[.int .u32 a, .int .i64 p, .slice A n c, .int .i64 sh, .int .i64 wo, .int .i64 qu, .int .i64 tr] 27)) (World.heap (w)).size 27 (#[.int .u32 a, .int .i64 p, .slice A n c, .int .i64 sh, .int .i64 wo, .int .i64 qu, .int .i64 tr]) := Bk.new _ _ _
  replace H := H.alloc (.cells (opv ⟨A0, n0, c0, A1, n1, c1, A2, n2, c2, A3, n3, c3⟩ ⟨kind, addr, err, aad, used, phase, shard, sought, leaf, bit, word, false, at_, tries, item, stamp⟩) 44)
  replace K := Below.then_ K (below_alloc _ (.cells (opv ⟨A0, n0, c0, A1, n1, c1, A2, n2, c2, A3, n3, c3⟩ ⟨kind, addr, err, aad, used, phase, shard, sought, leaf, bit, word, false, at_, tries, item, stamp⟩) 44))
  have O : Bk (World.alloc ((w).alloc (.cells #[.int .u32 a, .int .i64 p, .slice A n c, .int .i64 sh, .int .i64 wo, .int .i64 qu, .int .i64 tr] 27)) (.cells (opv ⟨A0, n0, c0, A1, n1, c1, A2, n2, c2, A3, n3, c3⟩ ⟨kind, addr, err, aad, used, phase, shard, sought, leaf, bit, word, false, at_, tries, item, stamp⟩) 44)) (World.heap ((w).alloc (.cells #[.int .u32 a, .int .i64 p, .slice A n c, .int .i64 sh, .int .i64 wo, .int .i64 qu, .int .i64 tr] 27))).size 44 (opv ⟨A0, n0, c0, A1, n1, c1, A2, n2, c2, A3, n3, c3⟩ ⟨kind, addr, err, aad, used, phase, shard, sought, leaf, bit, word, false, at_, tries, item, stamp⟩) := Bk.new _ _ _
  replace H := H.alloc (.cells #[.int .i64 0, .int .u32 0, .slice none 0 0, .int .i64 0, .int .u32 0, .bool false, .slice none 0 0, .slice none 0 0, .int .i64 0, .int .i64 0, .int .i64 0, .int .i64 0, .int .i64 0, .int .u64 0, .bool false, .slice none 0 0, .int .i64 0, .int .i64 0, .int .i64 0, .int .i64 0] 44)
  replace O := O.alloc (.cells #[.int .i64 0, .int .u32 0, .slice none 0 0, .int .i64 0, .int .u32 0, .bool false, .slice none 0 0, .slice none 0 0, .int .i64 0, .int .i64 0, .int .i64 0, .int .i64 0, .int .i64 0, .int .u64 0, .bool false, .slice none 0 0, .int .i64 0, .int .i64 0, .int .i64 0, .int .i64 0] 44)
  replace K := Below.then_ K (below_alloc _ (.cells #[.int .i64 0, .int .u32 0, .slice none 0 0, .int .i64 0, .int .u32 0, .bool false, .slice none 0 0, .slice none 0 0, .int .i64 0, .int .i64 0, .int .i64 0, .int .i64 0, .int .i64 0, .int .u64 0, .bool false, .slice none 0 0, .int .i64 0, .int .i64 0, .int .i64 0, .int .i64 0] 44))
  have R : Bk (World.alloc (((w).alloc (.cells #[.int .u32 a, .int .i64 p, .slice A n c, .int .i64 sh, .int .i64 wo, .int .i64 qu, .int .i64 tr] 27)).alloc (.cells (opv ⟨A0, n0, c0, A1, n1, c1, A2, n2, c2, A3, n3, c3⟩ ⟨kind, addr, err, aad, used, phase, shard, sought, leaf, bit, word, false, at_, tries, item, stamp⟩) 44)) (.cells #[.int .i64 0, .int .u32 0, .slice none 0 0, .int .i64 0, .int .u32 0, .bool false, .slice none 0 0, .slice none 0 0, .int .i64 0, .int .i64 0, .int .i64 0, .int .i64 0, .int .i64 0, .int .u64 0, .bool false, .slice none 0 0, .int .i64 0, .int .i64 0, .int .i64 0, .int .i64 0] 44)) (World.heap (((w).alloc (.cells #[.int .u32 a, .int .i64 p, .slice A n c, .int .i64 sh, .int .i64 wo, .int .i64 qu, .int .i64 tr] 27)).alloc (.cells (opv ⟨A0, n0, c0, A1, n1, c1, A2, n2, c2, A3, n3, c3⟩ ⟨kind, addr, err, aad, used, phase, shard, sought, leaf, bit, word, false, at_, tries, item, stamp⟩) 44))).size 44 (opv hd0 sc0) := Bk.new _ _ _
  try simp only [World.size_alloc] at H O R
  generalize (((w).alloc (.cells #[.int .u32 a, .int .i64 p, .slice A n c, .int .i64 sh, .int .i64 wo, .int .i64 qu, .int .i64 tr] 27)).alloc (.cells (opv ⟨A0, n0, c0, A1, n1, c1, A2, n2, c2, A3, n3, c3⟩ ⟨kind, addr, err, aad, used, phase, shard, sought, leaf, bit, word, false, at_, tries, item, stamp⟩) 44)).alloc (.cells #[.int .i64 0, .int .u32 0, .slice none 0 0, .int .i64 0, .int .u32 0, .bool false, .slice none 0 0, .slice none 0 0, .int .i64 0, .int .i64 0, .int .i64 0, .int .i64 0, .int .i64 0, .int .u64 0, .bool false, .slice none 0 0, .int .i64 0, .int .i64 0, .int .i64 0, .int .i64 0] 44) = w1 at H O R K ⊢
  obtain ⟨gR, hgR⟩ : ∃ g, g = w.heap.size + 1 + 1 := ⟨_, rfl⟩
  rw [← hgR] at R ⊢
  obtain ⟨gO, hgO⟩ : ∃ g, g = w.heap.size + 1 := ⟨_, rfl⟩
  rw [← hgO] at O ⊢
  obtain ⟨gH, hgH⟩ : ∃ g, g = w.heap.size := ⟨_, rfl⟩
  rw [← hgH] at H ⊢
  have H_b : w.heap.size ≤ gH := by omega
  have O_b : w.heap.size ≤ gO := by omega
  have R_b : w.heap.size ≤ gR := by omega
  have ne_H_O : gH ≠ gO := by omega
  have ne_H_R : gH ≠ gR := by omega
  have ne_O_R : gO ≠ gR := by omega
  clear hgH hgO hgR
  have O_13 := O.at_ (v := .int .u64 ((word : Nat) : Int)) 13 rfl
  have O_z := O.lt
  have O_f13 := O.fz 13
  go_upto_region 2 with (fail)
  replace H := H.far (p := ⟨gO, 13, none⟩) ne_H_O (.int .u64 (x : Nat))
  replace R := R.far (p := ⟨gO, 13, none⟩) (Ne.symm ne_O_R) (.int .u64 (x : Nat))
  replace O := O.set_ 13 (.int .u64 (x : Nat))
  replace K := K.setCell (p := ⟨gO, 13, none⟩) O_b (.int .u64 (x : Nat))
  replace O : Bk ((w1).setCell ⟨gO, 13, none⟩ (.int .u64 (x : Nat))) gO 44 (opv ⟨A0, n0, c0, A1, n1, c1, A2, n2, c2, A3, n3, c3⟩ ⟨kind, addr, err, aad, used, phase, shard, sought, leaf, bit, x, false, at_, tries, item, stamp⟩) := O
  clear O_13 O_z O_f13
  generalize (w1).setCell ⟨gO, 13, none⟩ (.int .u64 (x : Nat)) = w2 at H O R K ⊢
  refine wp_region_held_drew (S := fun w' => Below w.heap.size w w' ∧ Bk w' gH 27 (#[.int .u32 a, .int .i64 p, .slice A n c, .int .i64 sh, .int .i64 wo, .int .i64 qu, .int .i64 tr]) ∧ Bk w' gO 44 (opv ⟨A0, n0, c0, A1, n1, c1, A2, n2, c2, A3, n3, c3⟩ ⟨kind, addr, err, aad, used, phase, shard, sought, leaf, bit, x, false, at_, tries, item, stamp⟩) ∧ Bk w' gR 44 (opv hd0 sc0) ∧ True) (by kernel_rfl) ⟨K.drew, H.below ((Below.refl _ _).drew), O.below ((Below.refl _ _).drew), R.below ((Below.refl _ _).drew), trivial⟩ (fun hHeld => ?_)
  generalize w2.drew = v3 at hHeld ⊢
  refine wpAnyH_take (i := 0) (oi := ⟨some 11, _, _, _, _, _⟩) (v := ?_) rfl (by kernel_rfl) (by kernel_rfl) (by kernel_rfl) (fun _ _ _ h => h) (Or.inl ⟨by rfl, ?_⟩) hHeld ?_
  rotate_left
  · intro ww hSw
    try dsimp only at hSw
    go_simp
    try with_reducible rfl
    try omega
  try simp only [Act.put, List.setIfInBounds_toArray, List.set_cons_zero, List.set_cons_succ]
  refine wpAnyH_take (i := 1) (oi := ⟨some 12, _, _, _, _, _⟩) (v := ?_) rfl (by kernel_rfl) (by kernel_rfl) (by kernel_rfl) (fun _ _ _ h => h) (Or.inl ⟨by rfl, ?_⟩) hHeld ?_
  rotate_left
  · intro ww hSw
    try dsimp only at hSw
    go_simp
    try with_reducible rfl
    try omega
  try simp only [Act.put, List.setIfInBounds_toArray, List.set_cons_zero, List.set_cons_succ]
  refine wpAnyH_take (i := 3) (oi := ⟨some 14, _, _, _, _, _⟩) (v := ?_) rfl (by kernel_rfl) (by kernel_rfl) (by kernel_rfl) (fun _ _ _ h => h) (Or.inl ⟨by rfl, ?_⟩) hHeld ?_
  rotate_left
  · intro ww hSw
    try dsimp only at hSw
    go_simp
    try with_reducible rfl
    try omega
  try simp only [Act.put, List.setIfInBounds_toArray, List.set_cons_zero, List.set_cons_succ]
  refine wpAnyH_take (i := 4) (oi := ⟨some 15, _, _, _, _, _⟩) (v := .bool false) rfl (by kernel_rfl) (by kernel_rfl) (by kernel_rfl) (fun _ _ _ h => h) (Or.inl ⟨by rfl, ?_⟩) hHeld ?_
  · intro ww hSw
    try dsimp only at hSw
    have O_14 := hSw.2.2.1.at_ (v := .bool false) 14 rfl
    go_simp
    try with_reducible rfl
    try omega
  try simp only [Act.put, List.setIfInBounds_toArray, List.set_cons_zero, List.set_cons_succ]
  refine wpAnyH_ready (rs := [2]) (by kernel_rfl) (by simp) ?_
  refine AllReadyH.cons (o := ⟨some 13, _, _, _, _, _⟩) rfl (fun K0 hK => ?_) AllReadyH.nil
  go_simp
  refine ((T _).out).mono ?_
  rintro e _ ⟨rfl, rfl⟩
  refine hK.out _ _ hHeld (fun hHeld' => ?_)
  clear hHeld hK K0
  have hHeld := hHeld'
  clear hHeld'
  try simp only [Act.put, List.setIfInBounds_toArray, List.set_cons_zero, List.set_cons_succ]
  refine wpAnyH_take (i := 5) (oi := ⟨some 16, _, _, _, _, _⟩) (v := .bool true) rfl (by kernel_rfl) (by kernel_rfl) (by kernel_rfl) (fun _ _ _ h => h) (Or.inl ⟨by rfl, ?_⟩) hHeld ?_
  · intro ww hSw
    try dsimp only at hSw
    go_simp
    try with_reducible rfl
    try omega
  try simp only [Act.put, List.setIfInBounds_toArray, List.set_cons_zero, List.set_cons_succ]
  refine wpAnyH_done (by kernel_rfl) ?_ _
  replace K := hHeld.1
  replace H := hHeld.2.1
  replace O := hHeld.2.2.1
  replace R := hHeld.2.2.2.1
  clear hHeld
  go_wp2_with (first | (refine wpList_load_row rfl 27 (.tmp 4) rfl gH rfl _ _ (0, 0) _ H Try.underlying27 rfl cf_sz ?_) | (refine wpList_load_row rfl 44 (.tmp 5) rfl gO rfl _ _ (0, 0) _ O Try.underlying44 rfl op_sz ?_))
  refine ((TO _ (hI.below K)).out).mono ?_
  rintro e w4 ⟨rfl, K'⟩
  replace H := H.below K'
  replace O := O.below K'
  replace R := R.below K'
  replace K := Below.then_ K K'
  clear K'
  go_wp2_with (refine wpList_store_row rfl 44 (.tmp 8) (.tmp 19) rfl gR _ rfl rfl _ _ R op_sz rfl (opv_one _ _) ?_)
  replace H := H.row_far ne_H_R (opv ⟨A0, n0, c0, A1, n1, c1, A2, n2, c2, A3, n3, c3⟩ (dn a n0 xs (worded ⟨kind, addr, err, aad, used, phase, shard, sought, leaf, bit, word, false, at_, tries, item, stamp⟩ x)))
  replace O := O.row_far ne_O_R (opv ⟨A0, n0, c0, A1, n1, c1, A2, n2, c2, A3, n3, c3⟩ (dn a n0 xs (worded ⟨kind, addr, err, aad, used, phase, shard, sought, leaf, bit, word, false, at_, tries, item, stamp⟩ x)))
  replace R := R.row (opv ⟨A0, n0, c0, A1, n1, c1, A2, n2, c2, A3, n3, c3⟩ (dn a n0 xs (worded ⟨kind, addr, err, aad, used, phase, shard, sought, leaf, bit, word, false, at_, tries, item, stamp⟩ x)))
  replace K := below_setRow K R_b (opv ⟨A0, n0, c0, A1, n1, c1, A2, n2, c2, A3, n3, c3⟩ (dn a n0 xs (worded ⟨kind, addr, err, aad, used, phase, shard, sought, leaf, bit, word, false, at_, tries, item, stamp⟩ x)))
  generalize w4.setRow gR (opv ⟨A0, n0, c0, A1, n1, c1, A2, n2, c2, A3, n3, c3⟩ (dn a n0 xs (worded ⟨kind, addr, err, aad, used, phase, shard, sought, leaf, bit, word, false, at_, tries, item, stamp⟩ x))) = w5 at H O R K ⊢
  refine bodyPost_ret (v := .agg (opv ⟨A0, n0, c0, A1, n1, c1, A2, n2, c2, A3, n3, c3⟩ (dn a n0 xs (worded ⟨kind, addr, err, aad, used, phase, shard, sought, leaf, bit, word, false, at_, tries, item, stamp⟩ x)))) ?_ rfl ?_
  · exact results_cell_row (fn := Try.f77) Try.results77 _ _ gR _ _ (0, 0) _ rfl R Try.underlying44 rfl op_sz
  exact ⟨rfl, K⟩
set_option maxHeartbeats 1000000 in
theorem look_n_true (ha : a < 4294967296) (hM : Much a p M) (hn : h.n0 ≤ 65536) (hI : IS .u32 lo w h.A0 h.n0 h.c0 xs) (hin : s.kind = 4 → InB a M h.n0 xs) {x b : Nat} (hx : x < 18446744073709551616) (hb2 : b < 64) (hb : x.testBit b = false) (hfu : s.full = true) :
    Calls Try.prog 77 #[.agg #[.int .u32 a, .int .i64 p, .slice A n c, .int .i64 sh, .int .i64 wo, .int .i64 qu, .int .i64 tr], .agg (opv h s), .int .u64 x, .int .i64 b] w (RetOp h (setp (worded s x)) w) := by
  have T := fun w => Lib.hid (hb ▸ has_any x b hx hb2 w)
  clear hb
  rcases s with ⟨kind, addr, err, aad, used, phase, shard, sought, leaf, bit, word, full, at_, tries, item, stamp⟩
  rcases h with ⟨A0, n0, c0, A1, n1, c1, A2, n2, c2, A3, n3, c3⟩
  dsimp only at *
  subst hfu
  go_enter Try.func77, Try.ntmps77
  go_upto_region 1 with (fail)
  have K := below_alloc w (.cells #[.int .u32 a, .int .i64 p, .slice A n c, .int .i64 sh, .int .i64 wo, .int .i64 qu, .int .i64 tr] 27)
  have H : Bk (World.alloc (w) (.cells #[.int .u32 a, .int .i64 p, .slice A n c, .int .i64 sh, .int .i64 wo, .int .i64 qu, .int .i64 tr] 27)) (World.heap (w)).size 27 (#[.int .u32 a, .int .i64 p, .slice A n c, .int .i64 sh, .int .i64 wo, .int .i64 qu, .int .i64 tr]) := Bk.new _ _ _
  replace H := H.alloc (.cells (opv ⟨A0, n0, c0, A1, n1, c1, A2, n2, c2, A3, n3, c3⟩ ⟨kind, addr, err, aad, used, phase, shard, sought, leaf, bit, word, true, at_, tries, item, stamp⟩) 44)
  replace K := Below.then_ K (below_alloc _ (.cells (opv ⟨A0, n0, c0, A1, n1, c1, A2, n2, c2, A3, n3, c3⟩ ⟨kind, addr, err, aad, used, phase, shard, sought, leaf, bit, word, true, at_, tries, item, stamp⟩) 44))
  have O : Bk (World.alloc ((w).alloc (.cells #[.int .u32 a, .int .i64 p, .slice A n c, .int .i64 sh, .int .i64 wo, .int .i64 qu, .int .i64 tr] 27)) (.cells (opv ⟨A0, n0, c0, A1, n1, c1, A2, n2, c2, A3, n3, c3⟩ ⟨kind, addr, err, aad, used, phase, shard, sought, leaf, bit, word, true, at_, tries, item, stamp⟩) 44)) (World.heap ((w).alloc (.cells #[.int .u32 a, .int .i64 p, .slice A n c, .int .i64 sh, .int .i64 wo, .int .i64 qu, .int .i64 tr] 27))).size 44 (opv ⟨A0, n0, c0, A1, n1, c1, A2, n2, c2, A3, n3, c3⟩ ⟨kind, addr, err, aad, used, phase, shard, sought, leaf, bit, word, true, at_, tries, item, stamp⟩) := Bk.new _ _ _
  replace H := H.alloc (.cells #[.int .i64 0, .int .u32 0, .slice none 0 0, .int .i64 0, .int .u32 0, .bool false, .slice none 0 0, .slice none 0 0, .int .i64 0, .int .i64 0, .int .i64 0, .int .i64 0, .int .i64 0, .int .u64 0, .bool false, .slice none 0 0, .int .i64 0, .int .i64 0, .int .i64 0, .int .i64 0] 44)
  replace O := O.alloc (.cells #[.int .i64 0, .int .u32 0, .slice none 0 0, .int .i64 0, .int .u32 0, .bool false, .slice none 0 0, .slice none 0 0, .int .i64 0, .int .i64 0, .int .i64 0, .int .i64 0, .int .i64 0, .int .u64 0, .bool false, .slice none 0 0, .int .i64 0, .int .i64 0, .int .i64 0, .int .i64 0] 44)
  replace K := Below.then_ K (below_alloc _ (.cells #[.int .i64 0, .int .u32 0, .slice none 0 0, .int .i64 0, .int .u32 0, .bool false, .slice none 0 0, .slice none 0 0, .int .i64 0, .int .i64 0, .int .i64 0, .int .i64 0, .int .i64 0, .int .u64 0, .bool false, .slice none 0 0, .int .i64 0, .int .i64 0, .int .i64 0, .int .i64 0] 44))
  have R : Bk (World.alloc (((w).alloc (.cells #[.int .u32 a, .int .i64 p, .slice A n c, .int .i64 sh, .int .i64 wo, .int .i64 qu, .int .i64 tr] 27)).alloc (.cells (opv ⟨A0, n0, c0, A1, n1, c1, A2, n2, c2, A3, n3, c3⟩ ⟨kind, addr, err, aad, used, phase, shard, sought, leaf, bit, word, true, at_, tries, item, stamp⟩) 44)) (.cells #[.int .i64 0, .int .u32 0, .slice none 0 0, .int .i64 0, .int .u32 0, .bool false, .slice none 0 0, .slice none 0 0, .int .i64 0, .int .i64 0, .int .i64 0, .int .i64 0, .int .i64 0, .int .u64 0, .bool false, .slice none 0 0, .int .i64 0, .int .i64 0, .int .i64 0, .int .i64 0] 44)) (World.heap (((w).alloc (.cells #[.int .u32 a, .int .i64 p, .slice A n c, .int .i64 sh, .int .i64 wo, .int .i64 qu, .int .i64 tr] 27)).alloc (.cells (opv ⟨A0, n0, c0, A1, n1, c1, A2, n2, c2, A3, n3, c3⟩ ⟨kind, addr, err, aad, used, phase, shard, sought, leaf, bit, word, true, at_, tries, item, stamp⟩) 44))).size 44 (opv hd0 sc0) := Bk.new _ _ _
  try simp only [World.size_alloc] at H O R
  generalize (((w).alloc (.cells #[.int .u32 a, .int .i64 p, .slice A n c, .int .i64 sh, .int .i64 wo, .int .i64 qu, .int .i64 tr] 27)).alloc (.cells (opv ⟨A0, n0, c0, A1, n1, c1, A2, n2, c2, A3, n3, c3⟩ ⟨kind, addr, err, aad, used, phase, shard, sought, leaf, bit, word, true, at_, tries, item, stamp⟩) 44)).alloc (.cells #[.int .i64 0, .int .u32 0, .slice none 0 0, .int .i64 0, .int .u32 0, .bool false, .slice none 0 0, .slice none 0 0, .int .i64 0, .int .i64 0, .int .i64 0, .int .i64 0, .int .i64 0, .int .u64 0, .bool false, .slice none 0 0, .int .i64 0, .int .i64 0, .int .i64 0, .int .i64 0] 44) = w1 at H O R K ⊢
  obtain ⟨gR, hgR⟩ : ∃ g, g = w.heap.size + 1 + 1 := ⟨_, rfl⟩
  rw [← hgR] at R ⊢
  obtain ⟨gO, hgO⟩ : ∃ g, g = w.heap.size + 1 := ⟨_, rfl⟩
  rw [← hgO] at O ⊢
  obtain ⟨gH, hgH⟩ : ∃ g, g = w.heap.size := ⟨_, rfl⟩
  rw [← hgH] at H ⊢
  have H_b : w.heap.size ≤ gH := by omega
  have O_b : w.heap.size ≤ gO := by omega
  have R_b : w.heap.size ≤ gR := by omega
  have ne_H_O : gH ≠ gO := by omega
  have ne_H_R : gH ≠ gR := by omega
  have ne_O_R : gO ≠ gR := by omega
  clear hgH hgO hgR
  have O_13 := O.at_ (v := .int .u64 ((word : Nat) : Int)) 13 rfl
  have O_z := O.lt
  have O_f13 := O.fz 13
  go_upto_region 2 with (fail)
  replace H := H.far (p := ⟨gO, 13, none⟩) ne_H_O (.int .u64 (x : Nat))
  replace R := R.far (p := ⟨gO, 13, none⟩) (Ne.symm ne_O_R) (.int .u64 (x : Nat))
  replace O := O.set_ 13 (.int .u64 (x : Nat))
  replace K := K.setCell (p := ⟨gO, 13, none⟩) O_b (.int .u64 (x : Nat))
  replace O : Bk ((w1).setCell ⟨gO, 13, none⟩ (.int .u64 (x : Nat))) gO 44 (opv ⟨A0, n0, c0, A1, n1, c1, A2, n2, c2, A3, n3, c3⟩ ⟨kind, addr, err, aad, used, phase, shard, sought, leaf, bit, x, true, at_, tries, item, stamp⟩) := O
  clear O_13 O_z O_f13
  generalize (w1).setCell ⟨gO, 13, none⟩ (.int .u64 (x : Nat)) = w2 at H O R K ⊢
  refine wp_region_held_drew (S := fun w' => Below w.heap.size w w' ∧ Bk w' gH 27 (#[.int .u32 a, .int .i64 p, .slice A n c, .int .i64 sh, .int .i64 wo, .int .i64 qu, .int .i64 tr]) ∧ Bk w' gO 44 (opv ⟨A0, n0, c0, A1, n1, c1, A2, n2, c2, A3, n3, c3⟩ ⟨kind, addr, err, aad, used, phase, shard, sought, leaf, bit, x, true, at_, tries, item, stamp⟩) ∧ Bk w' gR 44 (opv hd0 sc0) ∧ True) (by kernel_rfl) ⟨K.drew, H.below ((Below.refl _ _).drew), O.below ((Below.refl _ _).drew), R.below ((Below.refl _ _).drew), trivial⟩ (fun hHeld => ?_)
  generalize w2.drew = v3 at hHeld ⊢
  refine wpAnyH_take (i := 0) (oi := ⟨some 11, _, _, _, _, _⟩) (v := ?_) rfl (by kernel_rfl) (by kernel_rfl) (by kernel_rfl) (fun _ _ _ h => h) (Or.inl ⟨by rfl, ?_⟩) hHeld ?_
  rotate_left
  · intro ww hSw
    try dsimp only at hSw
    go_simp
    try with_reducible rfl
    try omega
  try simp only [Act.put, List.setIfInBounds_toArray, List.set_cons_zero, List.set_cons_succ]
  refine wpAnyH_take (i := 1) (oi := ⟨some 12, _, _, _, _, _⟩) (v := ?_) rfl (by kernel_rfl) (by kernel_rfl) (by kernel_rfl) (fun _ _ _ h => h) (Or.inl ⟨by rfl, ?_⟩) hHeld ?_
  rotate_left
  · intro ww hSw
    try dsimp only at hSw
    go_simp
    try with_reducible rfl
    try omega
  try simp only [Act.put, List.setIfInBounds_toArray, List.set_cons_zero, List.set_cons_succ]
  refine wpAnyH_take (i := 3) (oi := ⟨some 14, _, _, _, _, _⟩) (v := ?_) rfl (by kernel_rfl) (by kernel_rfl) (by kernel_rfl) (fun _ _ _ h => h) (Or.inl ⟨by rfl, ?_⟩) hHeld ?_
  rotate_left
  · intro ww hSw
    try dsimp only at hSw
    go_simp
    try with_reducible rfl
    try omega
  try simp only [Act.put, List.setIfInBounds_toArray, List.set_cons_zero, List.set_cons_succ]
  refine wpAnyH_take (i := 4) (oi := ⟨some 15, _, _, _, _, _⟩) (v := .bool true) rfl (by kernel_rfl) (by kernel_rfl) (by kernel_rfl) (fun _ _ _ h => h) (Or.inl ⟨by rfl, ?_⟩) hHeld ?_
  · intro ww hSw
    try dsimp only at hSw
    have O_14 := hSw.2.2.1.at_ (v := .bool true) 14 rfl
    go_simp
    try with_reducible rfl
    try omega
  try simp only [Act.put, List.setIfInBounds_toArray, List.set_cons_zero, List.set_cons_succ]
  refine wpAnyH_ready (rs := [2]) (by kernel_rfl) (by simp) ?_
  refine AllReadyH.cons (o := ⟨some 13, _, _, _, _, _⟩) rfl (fun K0 hK => ?_) AllReadyH.nil
  go_simp
  refine ((T _).out).mono ?_
  rintro e _ ⟨rfl, rfl⟩
  refine hK.out _ _ hHeld (fun hHeld' => ?_)
  clear hHeld hK K0
  have hHeld := hHeld'
  clear hHeld'
  try simp only [Act.put, List.setIfInBounds_toArray, List.set_cons_zero, List.set_cons_succ]
  refine wpAnyH_take (i := 5) (oi := ⟨some 16, _, _, _, _, _⟩) (v := .bool false) rfl (by kernel_rfl) (by kernel_rfl) (by kernel_rfl) (fun _ _ _ h => h) (Or.inl ⟨by rfl, ?_⟩) hHeld ?_
  · intro ww hSw
    try dsimp only at hSw
    go_simp
    try with_reducible rfl
    try omega
  try simp only [Act.put, List.setIfInBounds_toArray, List.set_cons_zero, List.set_cons_succ]
  refine wpAnyH_done (by kernel_rfl) ?_ _
  replace K := hHeld.1
  replace H := hHeld.2.1
  replace O := hHeld.2.2.1
  replace R := hHeld.2.2.2.1
  clear hHeld
  have O_8 := O.at_ (v := .int .i64 (phase)) 8 rfl
  have O_z := O.lt
  have O_f8 := O.fz 8
  go_upto_region 5 with (fail)
  replace H := H.far (p := ⟨gO, 8, none⟩) ne_H_O (.int .i64 5)
  replace R := R.far (p := ⟨gO, 8, none⟩) (Ne.symm ne_O_R) (.int .i64 5)
  replace O := O.set_ 8 (.int .i64 5)
  replace K := K.setCell (p := ⟨gO, 8, none⟩) O_b (.int .i64 5)
  replace O : Bk ((v3).setCell ⟨gO, 8, none⟩ (.int .i64 5)) gO 44 (opv ⟨A0, n0, c0, A1, n1, c1, A2, n2, c2, A3, n3, c3⟩ ⟨kind, addr, err, aad, used, 5, shard, sought, leaf, bit, x, true, at_, tries, item, stamp⟩) := O
  clear O_8 O_z O_f8
  generalize (v3).setCell ⟨gO, 8, none⟩ (.int .i64 5) = w4 at H O R K ⊢
  go_wp2_with (first | (refine wpList_load_row rfl 44 (.tmp 5) rfl gO rfl _ _ (0, 0) _ O Try.underlying44 rfl op_sz ?_) | (refine wpList_store_row rfl 44 (.tmp 8) (.tmp 21) rfl gR _ rfl rfl _ _ R op_sz rfl (opv_one _ _) ?_))
  replace H := H.row_far ne_H_R (opv ⟨A0, n0, c0, A1, n1, c1, A2, n2, c2, A3, n3, c3⟩ ⟨kind, addr, err, aad, used, 5, shard, sought, leaf, bit, x, true, at_, tries, item, stamp⟩)
  replace O := O.row_far ne_O_R (opv ⟨A0, n0, c0, A1, n1, c1, A2, n2, c2, A3, n3, c3⟩ ⟨kind, addr, err, aad, used, 5, shard, sought, leaf, bit, x, true, at_, tries, item, stamp⟩)
  replace R := R.row (opv ⟨A0, n0, c0, A1, n1, c1, A2, n2, c2, A3, n3, c3⟩ ⟨kind, addr, err, aad, used, 5, shard, sought, leaf, bit, x, true, at_, tries, item, stamp⟩)
  replace K := below_setRow K R_b (opv ⟨A0, n0, c0, A1, n1, c1, A2, n2, c2, A3, n3, c3⟩ ⟨kind, addr, err, aad, used, 5, shard, sought, leaf, bit, x, true, at_, tries, item, stamp⟩)
  generalize w4.setRow gR (opv ⟨A0, n0, c0, A1, n1, c1, A2, n2, c2, A3, n3, c3⟩ ⟨kind, addr, err, aad, used, 5, shard, sought, leaf, bit, x, true, at_, tries, item, stamp⟩) = w5 at H O R K ⊢
  refine bodyPost_ret (v := .agg (opv ⟨A0, n0, c0, A1, n1, c1, A2, n2, c2, A3, n3, c3⟩ ⟨kind, addr, err, aad, used, 5, shard, sought, leaf, bit, x, true, at_, tries, item, stamp⟩)) ?_ rfl ?_
  · exact results_cell_row (fn := Try.f77) Try.results77 _ _ gR _ _ (0, 0) _ rfl R Try.underlying44 rfl op_sz
  exact ⟨rfl, K⟩
set_option maxHeartbeats 1000000 in
theorem look_n_false (ha : a < 4294967296) (hM : Much a p M) (hn : h.n0 ≤ 65536) (hI : IS .u32 lo w h.A0 h.n0 h.c0 xs) (hin : s.kind = 4 → InB a M h.n0 xs) {x b : Nat} (hx : x < 18446744073709551616) (hb2 : b < 64) (hb : x.testBit b = true) (hfu : s.full = false) :
    Calls Try.prog 77 #[.agg #[.int .u32 a, .int .i64 p, .slice A n c, .int .i64 sh, .int .i64 wo, .int .i64 qu, .int .i64 tr], .agg (opv h s), .int .u64 x, .int .i64 b] w (RetOp h (setp (worded s x)) w) := by
  have T := fun w => Lib.hid (hb ▸ has_any x b hx hb2 w)
  clear hb
  rcases s with ⟨kind, addr, err, aad, used, phase, shard, sought, leaf, bit, word, full, at_, tries, item, stamp⟩
  rcases h with ⟨A0, n0, c0, A1, n1, c1, A2, n2, c2, A3, n3, c3⟩
  dsimp only at *
  subst hfu
  go_enter Try.func77, Try.ntmps77
  go_upto_region 1 with (fail)
  have K := below_alloc w (.cells #[.int .u32 a, .int .i64 p, .slice A n c, .int .i64 sh, .int .i64 wo, .int .i64 qu, .int .i64 tr] 27)
  have H : Bk (World.alloc (w) (.cells #[.int .u32 a, .int .i64 p, .slice A n c, .int .i64 sh, .int .i64 wo, .int .i64 qu, .int .i64 tr] 27)) (World.heap (w)).size 27 (#[.int .u32 a, .int .i64 p, .slice A n c, .int .i64 sh, .int .i64 wo, .int .i64 qu, .int .i64 tr]) := Bk.new _ _ _
  replace H := H.alloc (.cells (opv ⟨A0, n0, c0, A1, n1, c1, A2, n2, c2, A3, n3, c3⟩ ⟨kind, addr, err, aad, used, phase, shard, sought, leaf, bit, word, false, at_, tries, item, stamp⟩) 44)
  replace K := Below.then_ K (below_alloc _ (.cells (opv ⟨A0, n0, c0, A1, n1, c1, A2, n2, c2, A3, n3, c3⟩ ⟨kind, addr, err, aad, used, phase, shard, sought, leaf, bit, word, false, at_, tries, item, stamp⟩) 44))
  have O : Bk (World.alloc ((w).alloc (.cells #[.int .u32 a, .int .i64 p, .slice A n c, .int .i64 sh, .int .i64 wo, .int .i64 qu, .int .i64 tr] 27)) (.cells (opv ⟨A0, n0, c0, A1, n1, c1, A2, n2, c2, A3, n3, c3⟩ ⟨kind, addr, err, aad, used, phase, shard, sought, leaf, bit, word, false, at_, tries, item, stamp⟩) 44)) (World.heap ((w).alloc (.cells #[.int .u32 a, .int .i64 p, .slice A n c, .int .i64 sh, .int .i64 wo, .int .i64 qu, .int .i64 tr] 27))).size 44 (opv ⟨A0, n0, c0, A1, n1, c1, A2, n2, c2, A3, n3, c3⟩ ⟨kind, addr, err, aad, used, phase, shard, sought, leaf, bit, word, false, at_, tries, item, stamp⟩) := Bk.new _ _ _
  replace H := H.alloc (.cells #[.int .i64 0, .int .u32 0, .slice none 0 0, .int .i64 0, .int .u32 0, .bool false, .slice none 0 0, .slice none 0 0, .int .i64 0, .int .i64 0, .int .i64 0, .int .i64 0, .int .i64 0, .int .u64 0, .bool false, .slice none 0 0, .int .i64 0, .int .i64 0, .int .i64 0, .int .i64 0] 44)
  replace O := O.alloc (.cells #[.int .i64 0, .int .u32 0, .slice none 0 0, .int .i64 0, .int .u32 0, .bool false, .slice none 0 0, .slice none 0 0, .int .i64 0, .int .i64 0, .int .i64 0, .int .i64 0, .int .i64 0, .int .u64 0, .bool false, .slice none 0 0, .int .i64 0, .int .i64 0, .int .i64 0, .int .i64 0] 44)
  replace K := Below.then_ K (below_alloc _ (.cells #[.int .i64 0, .int .u32 0, .slice none 0 0, .int .i64 0, .int .u32 0, .bool false, .slice none 0 0, .slice none 0 0, .int .i64 0, .int .i64 0, .int .i64 0, .int .i64 0, .int .i64 0, .int .u64 0, .bool false, .slice none 0 0, .int .i64 0, .int .i64 0, .int .i64 0, .int .i64 0] 44))
  have R : Bk (World.alloc (((w).alloc (.cells #[.int .u32 a, .int .i64 p, .slice A n c, .int .i64 sh, .int .i64 wo, .int .i64 qu, .int .i64 tr] 27)).alloc (.cells (opv ⟨A0, n0, c0, A1, n1, c1, A2, n2, c2, A3, n3, c3⟩ ⟨kind, addr, err, aad, used, phase, shard, sought, leaf, bit, word, false, at_, tries, item, stamp⟩) 44)) (.cells #[.int .i64 0, .int .u32 0, .slice none 0 0, .int .i64 0, .int .u32 0, .bool false, .slice none 0 0, .slice none 0 0, .int .i64 0, .int .i64 0, .int .i64 0, .int .i64 0, .int .i64 0, .int .u64 0, .bool false, .slice none 0 0, .int .i64 0, .int .i64 0, .int .i64 0, .int .i64 0] 44)) (World.heap (((w).alloc (.cells #[.int .u32 a, .int .i64 p, .slice A n c, .int .i64 sh, .int .i64 wo, .int .i64 qu, .int .i64 tr] 27)).alloc (.cells (opv ⟨A0, n0, c0, A1, n1, c1, A2, n2, c2, A3, n3, c3⟩ ⟨kind, addr, err, aad, used, phase, shard, sought, leaf, bit, word, false, at_, tries, item, stamp⟩) 44))).size 44 (opv hd0 sc0) := Bk.new _ _ _
  try simp only [World.size_alloc] at H O R
  generalize (((w).alloc (.cells #[.int .u32 a, .int .i64 p, .slice A n c, .int .i64 sh, .int .i64 wo, .int .i64 qu, .int .i64 tr] 27)).alloc (.cells (opv ⟨A0, n0, c0, A1, n1, c1, A2, n2, c2, A3, n3, c3⟩ ⟨kind, addr, err, aad, used, phase, shard, sought, leaf, bit, word, false, at_, tries, item, stamp⟩) 44)).alloc (.cells #[.int .i64 0, .int .u32 0, .slice none 0 0, .int .i64 0, .int .u32 0, .bool false, .slice none 0 0, .slice none 0 0, .int .i64 0, .int .i64 0, .int .i64 0, .int .i64 0, .int .i64 0, .int .u64 0, .bool false, .slice none 0 0, .int .i64 0, .int .i64 0, .int .i64 0, .int .i64 0] 44) = w1 at H O R K ⊢
  obtain ⟨gR, hgR⟩ : ∃ g, g = w.heap.size + 1 + 1 := ⟨_, rfl⟩
  rw [← hgR] at R ⊢
  obtain ⟨gO, hgO⟩ : ∃ g, g = w.heap.size + 1 := ⟨_, rfl⟩
  rw [← hgO] at O ⊢
  obtain ⟨gH, hgH⟩ : ∃ g, g = w.heap.size := ⟨_, rfl⟩
  rw [← hgH] at H ⊢
  have H_b : w.heap.size ≤ gH := by omega
  have O_b : w.heap.size ≤ gO := by omega
  have R_b : w.heap.size ≤ gR := by omega
  have ne_H_O : gH ≠ gO := by omega
  have ne_H_R : gH ≠ gR := by omega
  have ne_O_R : gO ≠ gR := by omega
  clear hgH hgO hgR
  have O_13 := O.at_ (v := .int .u64 ((word : Nat) : Int)) 13 rfl
  have O_z := O.lt
  have O_f13 := O.fz 13
  go_upto_region 2 with (fail)
  replace H := H.far (p := ⟨gO, 13, none⟩) ne_H_O (.int .u64 (x : Nat))
  replace R := R.far (p := ⟨gO, 13, none⟩) (Ne.symm ne_O_R) (.int .u64 (x : Nat))
  replace O := O.set_ 13 (.int .u64 (x : Nat))
  replace K := K.setCell (p := ⟨gO, 13, none⟩) O_b (.int .u64 (x : Nat))
  replace O : Bk ((w1).setCell ⟨gO, 13, none⟩ (.int .u64 (x : Nat))) gO 44 (opv ⟨A0, n0, c0, A1, n1, c1, A2, n2, c2, A3, n3, c3⟩ ⟨kind, addr, err, aad, used, phase, shard, sought, leaf, bit, x, false, at_, tries, item, stamp⟩) := O
  clear O_13 O_z O_f13
  generalize (w1).setCell ⟨gO, 13, none⟩ (.int .u64 (x : Nat)) = w2 at H O R K ⊢
  refine wp_region_held_drew (S := fun w' => Below w.heap.size w w' ∧ Bk w' gH 27 (#[.int .u32 a, .int .i64 p, .slice A n c, .int .i64 sh, .int .i64 wo, .int .i64 qu, .int .i64 tr]) ∧ Bk w' gO 44 (opv ⟨A0, n0, c0, A1, n1, c1, A2, n2, c2, A3, n3, c3⟩ ⟨kind, addr, err, aad, used, phase, shard, sought, leaf, bit, x, false, at_, tries, item, stamp⟩) ∧ Bk w' gR 44 (opv hd0 sc0) ∧ True) (by kernel_rfl) ⟨K.drew, H.below ((Below.refl _ _).drew), O.below ((Below.refl _ _).drew), R.below ((Below.refl _ _).drew), trivial⟩ (fun hHeld => ?_)
  generalize w2.drew = v3 at hHeld ⊢
  refine wpAnyH_take (i := 0) (oi := ⟨some 11, _, _, _, _, _⟩) (v := ?_) rfl (by kernel_rfl) (by kernel_rfl) (by kernel_rfl) (fun _ _ _ h => h) (Or.inl ⟨by rfl, ?_⟩) hHeld ?_
  rotate_left
  · intro ww hSw
    try dsimp only at hSw
    go_simp
    try with_reducible rfl
    try omega
  try simp only [Act.put, List.setIfInBounds_toArray, List.set_cons_zero, List.set_cons_succ]
  refine wpAnyH_take (i := 1) (oi := ⟨some 12, _, _, _, _, _⟩) (v := ?_) rfl (by kernel_rfl) (by kernel_rfl) (by kernel_rfl) (fun _ _ _ h => h) (Or.inl ⟨by rfl, ?_⟩) hHeld ?_
  rotate_left
  · intro ww hSw
    try dsimp only at hSw
    go_simp
    try with_reducible rfl
    try omega
  try simp only [Act.put, List.setIfInBounds_toArray, List.set_cons_zero, List.set_cons_succ]
  refine wpAnyH_take (i := 3) (oi := ⟨some 14, _, _, _, _, _⟩) (v := ?_) rfl (by kernel_rfl) (by kernel_rfl) (by kernel_rfl) (fun _ _ _ h => h) (Or.inl ⟨by rfl, ?_⟩) hHeld ?_
  rotate_left
  · intro ww hSw
    try dsimp only at hSw
    go_simp
    try with_reducible rfl
    try omega
  try simp only [Act.put, List.setIfInBounds_toArray, List.set_cons_zero, List.set_cons_succ]
  refine wpAnyH_take (i := 4) (oi := ⟨some 15, _, _, _, _, _⟩) (v := .bool false) rfl (by kernel_rfl) (by kernel_rfl) (by kernel_rfl) (fun _ _ _ h => h) (Or.inl ⟨by rfl, ?_⟩) hHeld ?_
  · intro ww hSw
    try dsimp only at hSw
    have O_14 := hSw.2.2.1.at_ (v := .bool false) 14 rfl
    go_simp
    try with_reducible rfl
    try omega
  try simp only [Act.put, List.setIfInBounds_toArray, List.set_cons_zero, List.set_cons_succ]
  refine wpAnyH_ready (rs := [2]) (by kernel_rfl) (by simp) ?_
  refine AllReadyH.cons (o := ⟨some 13, _, _, _, _, _⟩) rfl (fun K0 hK => ?_) AllReadyH.nil
  go_simp
  refine ((T _).out).mono ?_
  rintro e _ ⟨rfl, rfl⟩
  refine hK.out _ _ hHeld (fun hHeld' => ?_)
  clear hHeld hK K0
  have hHeld := hHeld'
  clear hHeld'
  try simp only [Act.put, List.setIfInBounds_toArray, List.set_cons_zero, List.set_cons_succ]
  refine wpAnyH_take (i := 5) (oi := ⟨some 16, _, _, _, _, _⟩) (v := .bool false) rfl (by kernel_rfl) (by kernel_rfl) (by kernel_rfl) (fun _ _ _ h => h) (Or.inl ⟨by rfl, ?_⟩) hHeld ?_
  · intro ww hSw
    try dsimp only at hSw
    go_simp
    try with_reducible rfl
    try omega
  try simp only [Act.put, List.setIfInBounds_toArray, List.set_cons_zero, List.set_cons_succ]
  refine wpAnyH_done (by kernel_rfl) ?_ _
  replace K := hHeld.1
  replace H := hHeld.2.1
  replace O := hHeld.2.2.1
  replace R := hHeld.2.2.2.1
  clear hHeld
  have O_8 := O.at_ (v := .int .i64 (phase)) 8 rfl
  have O_z := O.lt
  have O_f8 := O.fz 8
  go_upto_region 5 with (fail)
  replace H := H.far (p := ⟨gO, 8, none⟩) ne_H_O (.int .i64 5)
  replace R := R.far (p := ⟨gO, 8, none⟩) (Ne.symm ne_O_R) (.int .i64 5)
  replace O := O.set_ 8 (.int .i64 5)
  replace K := K.setCell (p := ⟨gO, 8, none⟩) O_b (.int .i64 5)
  replace O : Bk ((v3).setCell ⟨gO, 8, none⟩ (.int .i64 5)) gO 44 (opv ⟨A0, n0, c0, A1, n1, c1, A2, n2, c2, A3, n3, c3⟩ ⟨kind, addr, err, aad, used, 5, shard, sought, leaf, bit, x, false, at_, tries, item, stamp⟩) := O
  clear O_8 O_z O_f8
  generalize (v3).setCell ⟨gO, 8, none⟩ (.int .i64 5) = w4 at H O R K ⊢
  go_wp2_with (first | (refine wpList_load_row rfl 44 (.tmp 5) rfl gO rfl _ _ (0, 0) _ O Try.underlying44 rfl op_sz ?_) | (refine wpList_store_row rfl 44 (.tmp 8) (.tmp 21) rfl gR _ rfl rfl _ _ R op_sz rfl (opv_one _ _) ?_))
  replace H := H.row_far ne_H_R (opv ⟨A0, n0, c0, A1, n1, c1, A2, n2, c2, A3, n3, c3⟩ ⟨kind, addr, err, aad, used, 5, shard, sought, leaf, bit, x, false, at_, tries, item, stamp⟩)
  replace O := O.row_far ne_O_R (opv ⟨A0, n0, c0, A1, n1, c1, A2, n2, c2, A3, n3, c3⟩ ⟨kind, addr, err, aad, used, 5, shard, sought, leaf, bit, x, false, at_, tries, item, stamp⟩)
  replace R := R.row (opv ⟨A0, n0, c0, A1, n1, c1, A2, n2, c2, A3, n3, c3⟩ ⟨kind, addr, err, aad, used, 5, shard, sought, leaf, bit, x, false, at_, tries, item, stamp⟩)
  replace K := below_setRow K R_b (opv ⟨A0, n0, c0, A1, n1, c1, A2, n2, c2, A3, n3, c3⟩ ⟨kind, addr, err, aad, used, 5, shard, sought, leaf, bit, x, false, at_, tries, item, stamp⟩)
  generalize w4.setRow gR (opv ⟨A0, n0, c0, A1, n1, c1, A2, n2, c2, A3, n3, c3⟩ ⟨kind, addr, err, aad, used, 5, shard, sought, leaf, bit, x, false, at_, tries, item, stamp⟩) = w5 at H O R K ⊢
  refine bodyPost_ret (v := .agg (opv ⟨A0, n0, c0, A1, n1, c1, A2, n2, c2, A3, n3, c3⟩ ⟨kind, addr, err, aad, used, 5, shard, sought, leaf, bit, x, false, at_, tries, item, stamp⟩)) ?_ rfl ?_
  · exact results_cell_row (fn := Try.f77) Try.results77 _ _ gR _ _ (0, 0) _ rfl R Try.underlying44 rfl op_sz
  exact ⟨rfl, K⟩
theorem look_any (ha : a < 4294967296) (hM : Much a p M) (hn : h.n0 ≤ 65536) (hI : IS .u32 lo w h.A0 h.n0 h.c0 xs) (hin : s.kind = 4 → InB a M h.n0 xs) {x b : Nat} (hx : x < 18446744073709551616) (hb2 : b < 64) :
    Calls Try.prog 77 #[.agg #[.int .u32 a, .int .i64 p, .slice A n c, .int .i64 sh, .int .i64 wo, .int .i64 qu, .int .i64 tr], .agg (opv h s), .int .u64 x, .int .i64 b] w (RetOp h (lk a h.n0 xs s x b) w) := by
  unfold lk
  cases hb : x.testBit b with
  | true =>
    cases hf : s.full with
    | true => rw [if_pos rfl]; exact look_y_true ha hM hn hI hin hx hb2 hb hf
    | false => rw [if_neg (by simp)]; exact look_n_false ha hM hn hI hin hx hb2 hb hf
  | false =>
    cases hf : s.full with
    | true => rw [if_neg (by simp)]; exact look_n_true ha hM hn hI hin hx hb2 hb hf
    | false => rw [if_pos rfl]; exact look_y_false ha hM hn hI hin hx hb2 hb hf
set_option maxHeartbeats 1000000 in
theorem goes_any (ha : a < 4294967296) (hM : Much a p M) (hn : h.n0 ≤ 65536) (hI : IS .u32 lo w h.A0 h.n0 h.c0 xs) (hin : s.kind = 4 → InB a M h.n0 xs) (L : Lists lo2 w h l) (h1 : h.n1 ≤ 65536) (h2 : h.n2 ≤ 65536) (h3 : h.n3 ≤ 65536) :
    Calls Try.prog 92 #[.agg #[.int .u32 a, .int .i64 p, .slice A n c, .int .i64 sh, .int .i64 wo, .int .i64 qu, .int .i64 tr], .agg (opv h s)] w (RetOwn h (gon a h.n0 xs s) l w) := by
  have T0 := fun w (L : Lists lo2 w h l) => Lib.hid (own_any (s := s) L hn h1 h2 h3)
  have hx := Lib.hid (L.i0.uniq hI)
  have TO := fun w lo A0 c0 A1 c1 A2 c2 A3 c3 (hI : IS .u32 lo w A0 h.n0 c0 xs) => Lib.hid (onward_any (w := w) (sh := sh) (wo := wo) (qu := qu) (tr := tr) (A := A) (n := n) (c := c) (h := ⟨A0, h.n0, c0, A1, h.n1, c1, A2, h.n2, c2, A3, h.n3, c3⟩) (s := s) ha hM hn hI hin)
  go_enter Try.func92, Try.ntmps92
  go_upto_region 1 with (fail)
  have K := below_alloc w (.cells #[.int .u32 a, .int .i64 p, .slice A n c, .int .i64 sh, .int .i64 wo, .int .i64 qu, .int .i64 tr] 27)
  have H : Bk (World.alloc (w) (.cells #[.int .u32 a, .int .i64 p, .slice A n c, .int .i64 sh, .int .i64 wo, .int .i64 qu, .int .i64 tr] 27)) (World.heap (w)).size 27 (#[.int .u32 a, .int .i64 p, .slice A n c, .int .i64 sh, .int .i64 wo, .int .i64 qu, .int .i64 tr]) := Bk.new _ _ _
  replace H := H.alloc (.cells (opv h s) 44)
  replace K := Below.then_ K (below_alloc _ (.cells (opv h s) 44))
  have O : Bk (World.alloc ((w).alloc (.cells #[.int .u32 a, .int .i64 p, .slice A n c, .int .i64 sh, .int .i64 wo, .int .i64 qu, .int .i64 tr] 27)) (.cells (opv h s) 44)) (World.heap ((w).alloc (.cells #[.int .u32 a, .int .i64 p, .slice A n c, .int .i64 sh, .int .i64 wo, .int .i64 qu, .int .i64 tr] 27))).size 44 (opv h s) := Bk.new _ _ _
  replace H := H.alloc (.cells #[.int .i64 0, .int .u32 0, .slice none 0 0, .int .i64 0, .int .u32 0, .bool false, .slice none 0 0, .slice none 0 0, .int .i64 0, .int .i64 0, .int .i64 0, .int .i64 0, .int .i64 0, .int .u64 0, .bool false, .slice none 0 0, .int .i64 0, .int .i64 0, .int .i64 0, .int .i64 0] 44)
  replace O := O.alloc (.cells #[.int .i64 0, .int .u32 0, .slice none 0 0, .int .i64 0, .int .u32 0, .bool false, .slice none 0 0, .slice none 0 0, .int .i64 0, .int .i64 0, .int .i64 0, .int .i64 0, .int .i64 0, .int .u64 0, .bool false, .slice none 0 0, .int .i64 0, .int .i64 0, .int .i64 0, .int .i64 0] 44)
  replace K := Below.then_ K (below_alloc _ (.cells #[.int .i64 0, .int .u32 0, .slice none 0 0, .int .i64 0, .int .u32 0, .bool false, .slice none 0 0, .slice none 0 0, .int .i64 0, .int .i64 0, .int .i64 0, .int .i64 0, .int .i64 0, .int .u64 0, .bool false, .slice none 0 0, .int .i64 0, .int .i64 0, .int .i64 0, .int .i64 0] 44))
  have R : Bk (World.alloc (((w).alloc (.cells #[.int .u32 a, .int .i64 p, .slice A n c, .int .i64 sh, .int .i64 wo, .int .i64 qu, .int .i64 tr] 27)).alloc (.cells (opv h s) 44)) (.cells #[.int .i64 0, .int .u32 0, .slice none 0 0, .int .i64 0, .int .u32 0, .bool false, .slice none 0 0, .slice none 0 0, .int .i64 0, .int .i64 0, .int .i64 0, .int .i64 0, .int .i64 0, .int .u64 0, .bool false, .slice none 0 0, .int .i64 0, .int .i64 0, .int .i64 0, .int .i64 0] 44)) (World.heap (((w).alloc (.cells #[.int .u32 a, .int .i64 p, .slice A n c, .int .i64 sh, .int .i64 wo, .int .i64 qu, .int .i64 tr] 27)).alloc (.cells (opv h s) 44))).size 44 (opv hd0 sc0) := Bk.new _ _ _
  try simp only [World.size_alloc] at H O R
  generalize (((w).alloc (.cells #[.int .u32 a, .int .i64 p, .slice A n c, .int .i64 sh, .int .i64 wo, .int .i64 qu, .int .i64 tr] 27)).alloc (.cells (opv h s) 44)).alloc (.cells #[.int .i64 0, .int .u32 0, .slice none 0 0, .int .i64 0, .int .u32 0, .bool false, .slice none 0 0, .slice none 0 0, .int .i64 0, .int .i64 0, .int .i64 0, .int .i64 0, .int .i64 0, .int .u64 0, .bool false, .slice none 0 0, .int .i64 0, .int .i64 0, .int .i64 0, .int .i64 0] 44) = w1 at H O R K ⊢
  obtain ⟨gR, hgR⟩ : ∃ g, g = w.heap.size + 1 + 1 := ⟨_, rfl⟩
  rw [← hgR] at R ⊢
  obtain ⟨gO, hgO⟩ : ∃ g, g = w.heap.size + 1 := ⟨_, rfl⟩
  rw [← hgO] at O ⊢
  obtain ⟨gH, hgH⟩ : ∃ g, g = w.heap.size := ⟨_, rfl⟩
  rw [← hgH] at H ⊢
  have H_b : w.heap.size ≤ gH := by omega
  have O_b : w.heap.size ≤ gO := by omega
  have R_b : w.heap.size ≤ gR := by omega
  have ne_H_O : gH ≠ gO := by omega
  have ne_H_R : gH ≠ gR := by omega
  have ne_O_R : gO ≠ gR := by omega
  clear hgH hgO hgR
  refine wp_region_held_drew (S := fun w' => Below w.heap.size w w' ∧ Bk w' gH 27 (#[.int .u32 a, .int .i64 p, .slice A n c, .int .i64 sh, .int .i64 wo, .int .i64 qu, .int .i64 tr]) ∧ Bk w' gO 44 (opv h s) ∧ (∃ v : Array Value, v.size = 20 ∧ Bk w' gR 44 v) ∧ True) (by kernel_rfl) ⟨K.drew, H.below ((Below.refl _ _).drew), O.below ((Below.refl _ _).drew), ⟨_, rfl, R.below ((Below.refl _ _).drew)⟩, trivial⟩ (fun hHeld => ?_)
  generalize w1.drew = v2 at hHeld ⊢
  refine wpAnyH_take (i := 0) (oi := ⟨some 5, _, _, _, _, _⟩) (v := .agg (#[.int .u32 a, .int .i64 p, .slice A n c, .int .i64 sh, .int .i64 wo, .int .i64 qu, .int .i64 tr])) rfl (by kernel_rfl) (by kernel_rfl) (by kernel_rfl) (fun _ _ _ h => h) (yieldsIf_load_row (by rfl) 27 (.tmp 2) rfl gH rfl 27 _ (0, 0) _ (fun _ hS => hS.2.1) Try.underlying27 rfl cf_sz) hHeld ?_
  try simp only [Act.put, List.setIfInBounds_toArray, List.set_cons_zero, List.set_cons_succ]
  refine wpAnyH_take (i := 1) (oi := ⟨some 6, _, _, _, _, _⟩) (v := .agg (opv h s)) rfl (by kernel_rfl) (by kernel_rfl) (by kernel_rfl) (fun _ _ _ h => h) (yieldsIf_load_row (by rfl) 44 (.tmp 3) rfl gO rfl 44 _ (0, 0) _ (fun _ hS => hS.2.2.1) Try.underlying44 rfl op_sz) hHeld ?_
  try simp only [Act.put, List.setIfInBounds_toArray, List.set_cons_zero, List.set_cons_succ]
  refine wpAnyH_ready (rs := [2]) (by kernel_rfl) (by simp) ?_
  refine AllReadyH.cons (o := ⟨some 7, _, _, _, _, _⟩) rfl (fun K0 hK => ?_) AllReadyH.nil
  go_simp
  refine ((T0 _ (L.below hHeld.1)).out).mono ?_
  rintro e v3 ⟨A0, c0, A1, c1, A2, c2, A3, c3, rfl, L', K'⟩
  have hlr := hHeld.2.2.2.1.choose_spec.2.lt
  have hlk := hHeld.1.size
  refine hK.out _ _ ⟨Below.then_ hHeld.1 K', hHeld.2.1.below K', hHeld.2.2.1.below K', ⟨_, hHeld.2.2.2.1.choose_spec.1, hHeld.2.2.2.1.choose_spec.2.below K'⟩, trivial⟩ (fun hHeld' => ?_)
  clear hHeld K' hK K0
  have hHeld := hHeld'
  clear hHeld'
  try simp only [Act.put, List.setIfInBounds_toArray, List.set_cons_zero, List.set_cons_succ]
  refine wpAnyH_ready (rs := [3]) (by kernel_rfl) (by simp) ?_
  refine AllReadyH.cons (o := ⟨some 8, _, _, _, _, _⟩) rfl (fun K0 hK => ?_) AllReadyH.nil
  go_simp
  refine ((TO _ _ A0 c0 A1 c1 A2 c2 A3 c3 (L'.asked hx.out)).out).mono ?_
  rintro e v4 ⟨rfl, K'⟩
  replace L' := L'.below K'
  refine hK.out _ _ ⟨Below.then_ hHeld.1 K', hHeld.2.1.below K', hHeld.2.2.1.below K', ⟨_, hHeld.2.2.2.1.choose_spec.1, hHeld.2.2.2.1.choose_spec.2.below K'⟩, trivial⟩ (fun hHeld' => ?_)
  clear hHeld K' hK K0
  have hHeld := hHeld'
  clear hHeld'
  try dsimp only
  refine wpAnyH_ready (rs := [4]) (by kernel_rfl) (by simp) ?_
  refine AllReadyH.cons (o := ⟨none, _, _, _, _, _⟩) rfl (fun K0 hK => ?_) AllReadyH.nil
  rw [if_pos (by rfl)]
  refine wp_store_row 44 (.tmp 4) (.tmp 8) rfl gR _ rfl rfl _ _ hHeld.2.2.2.1.choose_spec.2 op_sz hHeld.2.2.2.1.choose_spec.1 (opv_one _ _) ?_
  have new_R := Bk.row hHeld.2.2.2.1.choose_spec.2 (opv ⟨A0, h.n0, c0, A1, h.n1, c1, A2, h.n2, c2, A3, h.n3, c3⟩ (gon a h.n0 xs s))
  replace L' := L'.set_row hlr (opv ⟨A0, h.n0, c0, A1, h.n1, c1, A2, h.n2, c2, A3, h.n3, c3⟩ (gon a h.n0 xs s))
  refine hK.out _ _ ⟨below_setRow hHeld.1 R_b _, hHeld.2.1.row_far ne_H_R _, hHeld.2.2.1.row_far ne_O_R _, ⟨_, rfl, new_R⟩, trivial⟩ (fun hHeld' => ?_)
  clear hHeld hK K0
  have hHeld := hHeld'
  clear hHeld'
  generalize v4.setRow gR (opv ⟨A0, h.n0, c0, A1, h.n1, c1, A2, h.n2, c2, A3, h.n3, c3⟩ (gon a h.n0 xs s)) = v5 at hHeld new_R L' ⊢
  try simp only [Act.put]
  refine wpAnyH_done (by kernel_rfl) ?_ _
  replace K := hHeld.1
  replace H := hHeld.2.1
  replace O := hHeld.2.2.1
  replace R := new_R
  clear new_R
  clear hHeld
  go_wp2
  refine bodyPost_ret (v := .agg (opv ⟨A0, h.n0, c0, A1, h.n1, c1, A2, h.n2, c2, A3, h.n3, c3⟩ (gon a h.n0 xs s))) ?_ rfl ?_
  · exact results_cell_row (fn := Try.f92) Try.results92 _ _ gR _ _ (0, 0) _ rfl R Try.underlying44 rfl op_sz
  exact ⟨_, _, _, _, _, _, _, _, rfl, L'.lower hlk, K⟩
end
end Go.Proofs.Ytacgjaohfcoigaa

/-
  What hint.summaries answers: two closures that tell a leaf's top and the root, with the bits in them. Conditions: a block that may be; a leaf up to 65536.
-/
namespace Go.Proofs.Ytacgjaohfcoigaa
set_option maxRecDepth 100000
open Go.RowKit
set_option linter.unusedVariables false
/-- The closures, over the cells gN (how many addresses) and gE (the leaf). -/
def clos (gN gE : Nat) : Array Value := #[.func (.func 83) #[] #[.pointer (some ⟨gN, 0, none⟩), .pointer (some ⟨gE, 0, none⟩)], .func (.func 84) #[] #[.pointer (some ⟨gN, 0, none⟩), .pointer (some ⟨gE, 0, none⟩)]]
def RetClos (M : Nat) (leaf : Int) (w : World) (e : Ending) (w' : World) : Prop := ∃ gN gE, e = .returned (.agg (clos gN gE)) ∧ Bk w' gN 3 #[.int .i64 M] ∧ Bk w' gE 3 #[.int .i64 leaf] ∧ w.heap.size ≤ gN ∧ w.heap.size ≤ gE ∧ Below w.heap.size w w'
theorem ar_info : (Try.prog.info? 101).map (·.size) = some 2 := by kernel_rfl
theorem ar_sz {gN gE : Nat} : (Try.prog.info? 101).map (·.size) = some (clos gN gE).size := ar_info
theorem ar_one (gN gE : Nat) : (clos gN gE).all (·.oneCell') = true := by unfold clos; simp [Value.oneCell']
section
variable {w : World} {lo lo2 a M : Nat} {p sh wo qu tr : Int} {A : Option Addr} {n c : Nat} {xs : List Int} {h : Hd} {s : Sc} {l : Ls}
theorem clo1_any {gN gE l : Nat} (hN : w.cell? ⟨gN, 0, none⟩ = some (.int .i64 (M : Nat))) (hE : w.cell? ⟨gE, 0, none⟩ = some (.int .i64 (l : Nat))) (hM : M ≤ 65536) (hl : l ≤ 65536) :
    Calls Try.prog 83 #[.pointer (some ⟨gN, 0, none⟩), .pointer (some ⟨gE, 0, none⟩)] w fun e w' => e = .returned (.tuple #[.int .i64 (lv M + l / 64 : Nat), .int .i64 (l % 64 : Nat)]) ∧ w = w' := by
  have T := fun w => Lib.hid (top_any M l hM hl w)
  go_enter Try.func83, Try.ntmps83
  go_wp2_with ((with_reducible refine ((T _).out).mono ?_); rintro e w' ⟨rfl, rfl⟩)
  go_ret2
  exact ⟨rfl, rfl⟩
theorem clo2_any {gN gE l : Nat} (hN : w.cell? ⟨gN, 0, none⟩ = some (.int .i64 (M : Nat))) (hE : w.cell? ⟨gE, 0, none⟩ = some (.int .i64 (l : Nat))) (hM : M ≤ 65536) (hl : l ≤ 65536) :
    Calls Try.prog 84 #[.pointer (some ⟨gN, 0, none⟩), .pointer (some ⟨gE, 0, none⟩)] w fun e w' => e = .returned (.tuple #[.int .i64 (lv M + tv M : Nat), .int .i64 (l / 64 : Nat)]) ∧ w = w' := by
  have T := fun w => Lib.hid (rootof_any M l hM hl w)
  go_enter Try.func84, Try.ntmps84
  go_wp2_with ((with_reducible refine ((T _).out).mono ?_); rintro e w' ⟨rfl, rfl⟩)
  go_ret2
  exact ⟨rfl, rfl⟩
set_option maxHeartbeats 1000000 in
theorem summaries_any {leaf : Int} (ha : a < 4294967296) (hM : Much a p M) :
    Calls Try.prog 76 #[.agg #[.int .u32 a, .int .i64 p, .slice A n c, .int .i64 sh, .int .i64 wo, .int .i64 qu, .int .i64 tr], .int .i64 leaf] w (RetClos M leaf w) := by
  go_enter Try.func76, Try.ntmps76
  go_upto_region 1 with (fail)
  have K := below_alloc w (.cells #[.int .u32 a, .int .i64 p, .slice A n c, .int .i64 sh, .int .i64 wo, .int .i64 qu, .int .i64 tr] 27)
  have H : Bk (World.alloc (w) (.cells #[.int .u32 a, .int .i64 p, .slice A n c, .int .i64 sh, .int .i64 wo, .int .i64 qu, .int .i64 tr] 27)) (World.heap (w)).size 27 (#[.int .u32 a, .int .i64 p, .slice A n c, .int .i64 sh, .int .i64 wo, .int .i64 qu, .int .i64 tr]) := Bk.new _ _ _
  replace H := H.alloc (.cells #[.int .i64 leaf] 3)
  replace K := Below.then_ K (below_alloc _ (.cells #[.int .i64 leaf] 3))
  have E : Bk (World.alloc ((w).alloc (.cells #[.int .u32 a, .int .i64 p, .slice A n c, .int .i64 sh, .int .i64 wo, .int .i64 qu, .int .i64 tr] 27)) (.cells #[.int .i64 leaf] 3)) (World.heap ((w).alloc (.cells #[.int .u32 a, .int .i64 p, .slice A n c, .int .i64 sh, .int .i64 wo, .int .i64 qu, .int .i64 tr] 27))).size 3 (#[.int .i64 leaf]) := Bk.new _ _ _
  replace H := H.alloc (.cells #[.nilFunc, .nilFunc] 101)
  replace E := E.alloc (.cells #[.nilFunc, .nilFunc] 101)
  replace K := Below.then_ K (below_alloc _ (.cells #[.nilFunc, .nilFunc] 101))
  have R : Bk (World.alloc (((w).alloc (.cells #[.int .u32 a, .int .i64 p, .slice A n c, .int .i64 sh, .int .i64 wo, .int .i64 qu, .int .i64 tr] 27)).alloc (.cells #[.int .i64 leaf] 3)) (.cells #[.nilFunc, .nilFunc] 101)) (World.heap (((w).alloc (.cells #[.int .u32 a, .int .i64 p, .slice A n c, .int .i64 sh, .int .i64 wo, .int .i64 qu, .int .i64 tr] 27)).alloc (.cells #[.int .i64 leaf] 3))).size 101 (#[.nilFunc, .nilFunc]) := Bk.new _ _ _
  try simp only [World.size_alloc] at H E R
  generalize (((w).alloc (.cells #[.int .u32 a, .int .i64 p, .slice A n c, .int .i64 sh, .int .i64 wo, .int .i64 qu, .int .i64 tr] 27)).alloc (.cells #[.int .i64 leaf] 3)).alloc (.cells #[.nilFunc, .nilFunc] 101) = w1 at H E R K ⊢
  obtain ⟨gR, hgR⟩ : ∃ g, g = w.heap.size + 1 + 1 := ⟨_, rfl⟩
  rw [← hgR] at R ⊢
  obtain ⟨gE, hgE⟩ : ∃ g, g = w.heap.size + 1 := ⟨_, rfl⟩
  rw [← hgE] at E ⊢
  obtain ⟨gH, hgH⟩ : ∃ g, g = w.heap.size := ⟨_, rfl⟩
  rw [← hgH] at H ⊢
  have H_b : w.heap.size ≤ gH := by omega
  have E_b : w.heap.size ≤ gE := by omega
  have R_b : w.heap.size ≤ gR := by omega
  have ne_H_E : gH ≠ gE := by omega
  have ne_H_R : gH ≠ gR := by omega
  have ne_E_R : gE ≠ gR := by omega
  clear hgH hgE hgR
  have H_0 := H.at_ (v := .int .u32 a) 0 rfl
  have H_1 := H.at_ (v := .int .i64 p) 1 rfl
  have H_z := H.lt
  go_wp2_with fail
  refine (many_yes ha hM).mono ?_
  rintro e w2 ⟨rfl, K'⟩
  clear H_0 H_1 H_z
  replace H := H.below K'
  replace E := E.below K'
  replace R := R.below K'
  replace K := Below.then_ K K'
  clear K'
  have H_lt := H.lt
  have E_lt := E.lt
  have R_lt := R.lt
  have KS := K.size
  go_upto_region 2 with (fail)
  replace H := H.alloc (.cells #[.int .i64 M] 3)
  replace E := E.alloc (.cells #[.int .i64 M] 3)
  replace R := R.alloc (.cells #[.int .i64 M] 3)
  replace K := Below.then_ K (below_alloc _ (.cells #[.int .i64 M] 3))
  have N : Bk (World.alloc (w2) (.cells #[.int .i64 M] 3)) (World.heap (w2)).size 3 (#[.int .i64 M]) := Bk.new _ _ _
  try simp only [World.size_alloc] at N
  generalize (w2).alloc (.cells #[.int .i64 M] 3) = w3 at H E R N K ⊢
  obtain ⟨gN, hgN⟩ : ∃ g, g = w2.heap.size := ⟨_, rfl⟩
  rw [← hgN] at N ⊢
  have N_b : w.heap.size ≤ gN := by have := KS; omega
  have ne_H_N : gH ≠ gN := by have := H_lt; omega
  have ne_E_N : gE ≠ gN := by have := E_lt; omega
  have ne_R_N : gR ≠ gN := by have := R_lt; omega
  clear hgN
  go_wp2_with (refine wpList_store_row rfl 101 (.tmp 4) (.tmp 11) rfl gR _ rfl (show _ = Value.agg (clos gN gE) from rfl) _ _ R ar_sz rfl (ar_one _ _) ?_)
  replace H := H.row_far ne_H_R (clos gN gE)
  replace E := E.row_far ne_E_R (clos gN gE)
  replace N := N.row_far (Ne.symm ne_R_N) (clos gN gE)
  replace R := R.row (clos gN gE)
  replace K := below_setRow K R_b (clos gN gE)
  generalize w3.setRow gR (clos gN gE) = w4 at H E R N K ⊢
  refine bodyPost_ret (v := .agg (clos gN gE)) ?_ rfl ?_
  · exact results_cell_row (fn := Try.f76) Try.results76 _ _ gR _ _ (0, 0) _ rfl R Try.underlying101 rfl ar_sz
  exact ⟨_, _, rfl, N, E, N_b, E_b, K⟩
end
end Go.Proofs.Ytacgjaohfcoigaa

/-
  What Find of package hint and the document's Find answer of a word and two places up to 64: the same.
-/
namespace Go.Proofs.Ytacgjaohfcoigaa
set_option maxRecDepth 100000
open Go.RowKit
/-- The word with the bits below f set. -/
def fl_ (X f : Nat) : Nat := X ||| msk f
end Go.Proofs.Ytacgjaohfcoigaa

/-
  cells.Swap and the document's Set once more: what is answered lies in memory that is new, or, where nothing is swapped, is what was handed in.
-/
namespace Go.Proofs.Ytacgjaohfcoigaa
set_option maxRecDepth 100000
open Go.RowKit
set_option linter.unusedVariables false
def RetSN (n : Nat) (xs : List Nat) (w : World) (e : Ending) (w' : World) : Prop := ∃ g c, e = .returned (.tuple #[.slice (some ⟨g, 0, none⟩) n c, .bool true]) ∧ US w' (some ⟨g, 0, none⟩) n c xs ∧ w.heap.size ≤ g ∧ Below w.heap.size w w'
def RetSM (n : Nat) (xs : List Nat) (w : World) (e : Ending) (w' : World) : Prop := ∃ g c, e = .returned (.slice (some ⟨g, 0, none⟩) n c) ∧ US w' (some ⟨g, 0, none⟩) n c xs ∧ w.heap.size ≤ g ∧ Below w.heap.size w w'
theorem US.keep {w w' : World} {A : Option Addr} {n c : Nat} {xs : List Nat} (h : US w A n c xs) (hs : w.heap.size ≤ w'.heap.size) (hk : ∀ b o, A = some ⟨b, o, none⟩ → b < w.heap.size → w'.heap[b]? = w.heap[b]?) : US w' A n c xs :=
  ⟨h.len, h.cap, h.most, h.nil_, h.fit, fun hn => by
    obtain ⟨b, o, e, hlt, hc⟩ := h.cells hn
    exact ⟨b, o, e, Nat.lt_of_lt_of_le hlt hs, fun j hj => (World.cell?_of_block (w := w) (w' := w') (a := ⟨b, o + j, none⟩) (hk b o e hlt)).trans (hc j hj)⟩⟩
theorem US.far {w : World} {g o n c : Nat} {xs : List Nat} (h : US w (some ⟨g, o, none⟩) n c xs) {p : Addr} (hp : g ≠ p.block) (u : Value) : US (w.setCell p u) (some ⟨g, o, none⟩) n c xs :=
  h.keep (by simp [World.setCell]) (fun b o' e _ => by cases e; exact Below.heap_setCell w p u g hp)
theorem US.row_far {w : World} {g o n c : Nat} {xs : List Nat} (h : US w (some ⟨g, o, none⟩) n c xs) {k : Nat} (hp : g ≠ k) (u : Array Value) : US (w.setRow k u) (some ⟨g, o, none⟩) n c xs :=
  h.keep (by simp) (fun b o' e _ => by cases e; exact setRow_other w k g u hp)
set_option maxHeartbeats 800000 in
theorem turn_swap_new {w : World} {A : Option Addr} {n c a v g k : Nat} {xs : List Nat} (h : US w A n c xs) (ha : a < n) (hn : n ≤ 65536) (hv : w.cell? ⟨g, 0, none⟩ = some (.int .u64 (v : Nat))) (hk : w.cell? ⟨k, 0, none⟩ = some (.int .u64 (gt xs a : Nat))) (hvl : v < U64) :
    Calls Try.prog 85 #[.slice A n c, .int .i64 (a : Nat), .func (.func 86) #[] #[.pointer (some ⟨g, 0, none⟩), .pointer (some ⟨k, 0, none⟩)]] w (RetSN n (xs.set a v) w) := by
  obtain ⟨b, o, rfl, hb, hc⟩ := h.get ha
  obtain ⟨i0, hi, hz0, hz1, hz2⟩ := info_parts u64_info
  have hl := Lib.hid h.len
  have hb8 : i0.bytes * n ≤ 281474976710656 := by rw [hz2]; omega
  go_enter Try.func85, Try.ntmps85
  go_wp2_with (first
    | (go_at_call 74; refine (there_yes _ _ _ _ ha _).mono ?_; rintro e w' ⟨rfl, rfl⟩)
    | (go_at_call 86; refine (clo_swap_yes hv hk).mono ?_; rintro e wd ⟨rfl, m, hm⟩; have K0 : Below w.heap.size w wd := hm ▸ drewN_below w m; clear hm)
    | (at_make; refine wpList_make_full _ rfl (.tmp 29) (.tmp 29) _ rfl w.heap.size 42 i0 _ 1 Try.underlying33 hi hz0 hz1 .i64 .i64 _ _ n rfl rfl rfl rfl hb8 (by unfold maxLen; omega) K0.size ?_; intro w1 hown1 hg1; have B1 := Blk.of_made hown1; clear hown1; have K1 : Below w.heap.size w w1 := K0.grown hg1 K0.size (by simp); clear hg1; obtain ⟨w2, hcp, B2, K2⟩ := run_copy_all (P := Try.prog) Try.underlying33 u64_size h K1 (by omega) B1 K0.size K1 3; have c2 := B2.cell (i := a) (by rw [hl.out]; exact ha); have f2 := B2.frozen a))
  go_ret2
  refine ⟨_, _, rfl, ?_, K0.size, ?_⟩
  · exact (B2.set_ a v).us (fit_set h.fit a hvl) (by simp [h.len]) hn
  · exact K2.setCell K0.size _
set_option maxHeartbeats 800000 in
theorem swap_new {w : World} {A : Option Addr} {n c a v : Nat} {xs : List Nat} (h : US w A n c xs) (ha : a < n) (hn : n ≤ 65536) (hv : v < U64) :
    Calls Try.prog 79 #[.slice A n c, .int .i64 (a : Nat), .int .u64 (gt xs a : Nat), .int .u64 (v : Nat)] w (RetSN n (xs.set a v) w) := by
  have hb2 : Below w.heap.size w ((w.alloc (.cells #[.int .u64 (gt xs a : Nat)] 42)).alloc (.cells #[.int .u64 (v : Nat)] 42)) := (below_alloc w _).alloc (by simp) _
  have T := Lib.hid (turn_swap_new (g := w.heap.size + 1) (k := w.heap.size) (h.below hb2) ha hn (by simp) (by simp) hv)
  go_enter Try.func79, Try.ntmps79
  go_wp2_with (go_at_call 85; refine (T.out).mono ?_; rintro e w' ⟨A1, c1, rfl, U1, G1, K1⟩)
  go_ret2
  exact ⟨_, _, rfl, U1, Nat.le_trans hb2.size G1, (RetS.ret U1 hb2 K1).2⟩
set_option maxHeartbeats 800000 in
theorem swap_same {w : World} {A : Option Addr} {n c a v y : Nat} {xs : List Nat} (h : US w A n c xs) (ha : a < n) (hne : gt xs a ≠ y) :
    Calls Try.prog 79 #[.slice A n c, .int .i64 (a : Nat), .int .u64 (y : Nat), .int .u64 (v : Nat)] w fun e w' => e = .returned (.tuple #[.slice A n c, .bool false]) ∧ Below w.heap.size w w' := by
  have hb2 : Below w.heap.size w ((w.alloc (.cells #[.int .u64 (y : Nat)] 42)).alloc (.cells #[.int .u64 (v : Nat)] 42)) := (below_alloc w _).alloc (by simp) _
  have T := Lib.hid (turn_swap_no (v := v) (g := w.heap.size + 1) (k := w.heap.size) (h.below hb2) ha (by simp) (by simp) hne)
  go_enter Try.func79, Try.ntmps79
  go_wp2_with (go_at_call 85; refine (T.out).mono ?_; rintro e w' ⟨rfl, m, hm⟩; have K1 := hm ▸ drewN_below _ m; clear hm)
  go_ret2
  have K2 := hb2.trans (K1.mono hb2.size)
  exact ⟨rfl, K2⟩
set_option maxHeartbeats 800000 in
theorem crset_new {w : World} {A : Option Addr} {n c v : Nat} {xs : List Nat} (h : US w A n c xs) (a : Int) (hn : n ≤ 65536) (hv : v < U64) :
    Calls Try.prog 30 #[.slice A n c, .int .i64 a, .int .u64 (v : Nat)] w (RetSM n (stI xs a v) w) := by
  have hl := Lib.hid h.len
  obtain ⟨i0, hi, hz0, hz1, hz2⟩ := info_parts u64_info
  have hown : (w.alloc (.cells #[] 42)).ownsRow w.heap.size 42 1 (.slice (some ⟨w.heap.size, 0, none⟩) 0 0) 0 [] := World.ownsRow_lit w #[] 0 (Nat.le_refl _) (by unfold maxLen; omega) rfl
  have K0 := below_alloc w (.cells #[] 42)
  obtain ⟨g, c', w1, hap, O1, K1⟩ := run_append_us (P := Try.prog) Try.underlying33 hi hz0 hz1 hz2 hown (h.below K0) hn (Nat.le_refl _) K0.size 33
  have K2 : Below w.heap.size w w1 := K0.trans K1
  have HO := Lib.hid O1
  have HA := Lib.hid hap
  clear O1 K1 hown hi hz0 hz1 hz2 hap
  go_enter Try.func30, Try.ntmps30
  go_wp2_with (at_builtin; refine wpList_append_run rfl (.tmp 9) (.tmp 10) 33 rfl _ _ _ _ rfl rfl HA.out ?_)
  go_loopw [8] (fun i wr => ∃ k : Nat, k ≤ n ∧ i = .int .i64 k ∧ Hid (Own wr w.heap.size g n c' 42 (prt xs a v k)) ∧ Below w.heap.size w wr) (fun i _ => n - (intOf i).toNat)
  case atStart => exact ⟨0, Nat.zero_le _, rfl, Lib.hid (by rw [prt_0]; exact HO.out), K2⟩
  case round =>
    obtain ⟨k, hk, rfl, HOr, Kr⟩ := hrel
    by_cases hlt : k < n
    · by_cases he : (k : Int) = a
      · subst he
        have e1 : ((k : Int) == (k : Int)) = true := by simp
        have c1 := HOr.out.cell hlt
        have f1 := HOr.out.frozen k
        go_wp2
        go_roundw
        case rel => exact ⟨k + 1, by omega, by go_num, Lib.hid (by rw [prt_hit]; exact HOr.out.set_ k v), Kr.setCell HOr.out.ge _⟩
        case measure => simp [intOf]; omega
      · have e1 : ((k : Int) == a) = false := by simpa using he
        have HE := Lib.hid he
        clear he
        go_wp2
        go_roundw
        case rel => exact ⟨k + 1, by omega, by go_num, Lib.hid (by rw [prt_miss xs v HE.out]; exact HOr.out), Kr⟩
        case measure => simp [intOf]; omega
    · go_wp2
      go_ret
      have e : k = n := by omega
      subst e
      refine ⟨_, _, rfl, HOr.out.us ?_ |> (prt_end a v hl.out ▸ ·), HOr.out.ge, Kr⟩
      rw [prt_end a v hl.out]; exact fit_stI h.fit a hv
end Go.Proofs.Ytacgjaohfcoigaa
