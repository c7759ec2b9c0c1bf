/-
  What hint.further, hint.onward and the document's Goes answer of an operation: one operation, gone on. Conditions: at most 65536 addresses, all the block's; Item at most 65536.
-/
import Derived.Test.YtafdlofmgefdoaaHintPure
import Derived.Laws.CopyOwn
namespace Go.Proofs.Ytafdlofmgefdoaa
open Go.RowKit
def RetBo (b : Bool) (w : World) (e : Ending) (w' : World) : Prop := e = .returned (.bool b) ∧ Below w.heap.size w w'
def RetOp (h : Hd) (s : Sc) (w : World) (e : Ending) (w' : World) : Prop := e = .returned (.agg (opv h s)) ∧ Below w.heap.size w w'
theorem fur0 {w : World} {h : Hd} {s : Sc} (hn : h.n0 ≤ 65536) (h0 : s.kind ≠ 4) :
    Calls Try.prog 55 #[.agg (opv h s)] w (RetBo false w) := by
  rcases s with ⟨kind, addr, err, aad, used, phase, shard, sought, leaf, bit, word, full, at_, tries, item, stamp⟩
  rcases h with ⟨A0, n0, c0, A1, n1, c1, A2, n2, c2, A3, n3, c3⟩
  dsimp only at *
  have e0 : (kind == 4) = false := by simpa using h0
  clear h0
  go_enter Try.func55, Try.ntmps55
  go_upto_region 1 with (fail)
  have K := below_alloc w (.cells (opv ⟨A0, n0, c0, A1, n1, c1, A2, n2, c2, A3, n3, c3⟩ ⟨kind, addr, err, aad, used, phase, shard, sought, leaf, bit, word, full, at_, tries, item, stamp⟩) 42)
  have O : Bk (World.alloc (w) (.cells (opv ⟨A0, n0, c0, A1, n1, c1, A2, n2, c2, A3, n3, c3⟩ ⟨kind, addr, err, aad, used, phase, shard, sought, leaf, bit, word, full, at_, tries, item, stamp⟩) 42)) (World.heap (w)).size 42 (opv ⟨A0, n0, c0, A1, n1, c1, A2, n2, c2, A3, n3, c3⟩ ⟨kind, addr, err, aad, used, phase, shard, sought, leaf, bit, word, full, at_, tries, item, stamp⟩) := Bk.new _ _ _
  try simp only [World.size_alloc] at O
  generalize (w).alloc (.cells (opv ⟨A0, n0, c0, A1, n1, c1, A2, n2, c2, A3, n3, c3⟩ ⟨kind, addr, err, aad, used, phase, shard, sought, leaf, bit, word, full, at_, tries, item, stamp⟩) 42) = w1 at O K ⊢
  obtain ⟨gO, hgO⟩ : ∃ g, g = w.heap.size := ⟨_, rfl⟩
  rw [← hgO] at O ⊢
  have O_b : w.heap.size ≤ gO := by omega
  clear hgO
  have O_0 := O.at_ (v := .int .i64 (kind)) 0 rfl
  have O_18 := O.at_ (v := .int .i64 (item)) 18 rfl
  have O_2 := O.at_ (v := .slice A0 n0 c0) 2 rfl
  have O_z := O.lt
  go_wp2
  go_ret
  exact ⟨rfl, K⟩
theorem fur1 {w : World} {h : Hd} {s : Sc} (hn : h.n0 ≤ 65536) (h0 : s.kind = 4) (h1 : s.item < 0) :
    Calls Try.prog 55 #[.agg (opv h s)] w (RetBo false w) := by
  rcases s with ⟨kind, addr, err, aad, used, phase, shard, sought, leaf, bit, word, full, at_, tries, item, stamp⟩
  rcases h with ⟨A0, n0, c0, A1, n1, c1, A2, n2, c2, A3, n3, c3⟩
  dsimp only at *
  have e0 : (kind == 4) = true := by simpa using h0
  clear h0
  have e1 : decide (0 ≤ item) = false := by simp; omega
  clear h1
  go_enter Try.func55, Try.ntmps55
  go_upto_region 1 with (fail)
  have K := below_alloc w (.cells (opv ⟨A0, n0, c0, A1, n1, c1, A2, n2, c2, A3, n3, c3⟩ ⟨kind, addr, err, aad, used, phase, shard, sought, leaf, bit, word, full, at_, tries, item, stamp⟩) 42)
  have O : Bk (World.alloc (w) (.cells (opv ⟨A0, n0, c0, A1, n1, c1, A2, n2, c2, A3, n3, c3⟩ ⟨kind, addr, err, aad, used, phase, shard, sought, leaf, bit, word, full, at_, tries, item, stamp⟩) 42)) (World.heap (w)).size 42 (opv ⟨A0, n0, c0, A1, n1, c1, A2, n2, c2, A3, n3, c3⟩ ⟨kind, addr, err, aad, used, phase, shard, sought, leaf, bit, word, full, at_, tries, item, stamp⟩) := Bk.new _ _ _
  try simp only [World.size_alloc] at O
  generalize (w).alloc (.cells (opv ⟨A0, n0, c0, A1, n1, c1, A2, n2, c2, A3, n3, c3⟩ ⟨kind, addr, err, aad, used, phase, shard, sought, leaf, bit, word, full, at_, tries, item, stamp⟩) 42) = w1 at O K ⊢
  obtain ⟨gO, hgO⟩ : ∃ g, g = w.heap.size := ⟨_, rfl⟩
  rw [← hgO] at O ⊢
  have O_b : w.heap.size ≤ gO := by omega
  clear hgO
  have O_0 := O.at_ (v := .int .i64 (kind)) 0 rfl
  have O_18 := O.at_ (v := .int .i64 (item)) 18 rfl
  have O_2 := O.at_ (v := .slice A0 n0 c0) 2 rfl
  have O_z := O.lt
  go_wp2
  go_ret
  exact ⟨rfl, K⟩
theorem fur2 {w : World} {h : Hd} {s : Sc} (hn : h.n0 ≤ 65536) (h0 : s.kind = 4) (h1 : 0 ≤ s.item) (h2 : ¬ s.item + 1 < (h.n0 : Int)) :
    Calls Try.prog 55 #[.agg (opv h s)] w (RetBo false w) := by
  rcases s with ⟨kind, addr, err, aad, used, phase, shard, sought, leaf, bit, word, full, at_, tries, item, stamp⟩
  rcases h with ⟨A0, n0, c0, A1, n1, c1, A2, n2, c2, A3, n3, c3⟩
  dsimp only at *
  have e0 : (kind == 4) = true := by simpa using h0
  clear h0
  have e2 : decide (item < (n0 : Int) - 1) = false := by simp; omega
  clear h2
  go_enter Try.func55, Try.ntmps55
  go_upto_region 1 with (fail)
  have K := below_alloc w (.cells (opv ⟨A0, n0, c0, A1, n1, c1, A2, n2, c2, A3, n3, c3⟩ ⟨kind, addr, err, aad, used, phase, shard, sought, leaf, bit, word, full, at_, tries, item, stamp⟩) 42)
  have O : Bk (World.alloc (w) (.cells (opv ⟨A0, n0, c0, A1, n1, c1, A2, n2, c2, A3, n3, c3⟩ ⟨kind, addr, err, aad, used, phase, shard, sought, leaf, bit, word, full, at_, tries, item, stamp⟩) 42)) (World.heap (w)).size 42 (opv ⟨A0, n0, c0, A1, n1, c1, A2, n2, c2, A3, n3, c3⟩ ⟨kind, addr, err, aad, used, phase, shard, sought, leaf, bit, word, full, at_, tries, item, stamp⟩) := Bk.new _ _ _
  try simp only [World.size_alloc] at O
  generalize (w).alloc (.cells (opv ⟨A0, n0, c0, A1, n1, c1, A2, n2, c2, A3, n3, c3⟩ ⟨kind, addr, err, aad, used, phase, shard, sought, leaf, bit, word, full, at_, tries, item, stamp⟩) 42) = w1 at O K ⊢
  obtain ⟨gO, hgO⟩ : ∃ g, g = w.heap.size := ⟨_, rfl⟩
  rw [← hgO] at O ⊢
  have O_b : w.heap.size ≤ gO := by omega
  clear hgO
  have O_0 := O.at_ (v := .int .i64 (kind)) 0 rfl
  have O_18 := O.at_ (v := .int .i64 (item)) 18 rfl
  have O_2 := O.at_ (v := .slice A0 n0 c0) 2 rfl
  have O_z := O.lt
  go_wp2
  go_ret
  exact ⟨rfl, K⟩
theorem fur3 {w : World} {h : Hd} {s : Sc} (hn : h.n0 ≤ 65536) (h0 : s.kind = 4) (h1 : 0 ≤ s.item) (h2 : s.item + 1 < (h.n0 : Int)) :
    Calls Try.prog 55 #[.agg (opv h s)] w (RetBo true w) := by
  rcases s with ⟨kind, addr, err, aad, used, phase, shard, sought, leaf, bit, word, full, at_, tries, item, stamp⟩
  rcases h with ⟨A0, n0, c0, A1, n1, c1, A2, n2, c2, A3, n3, c3⟩
  dsimp only at *
  have e0 : (kind == 4) = true := by simpa using h0
  clear h0
  have e2 : decide (item < (n0 : Int) - 1) = true := by simp; omega
  clear h2
  go_enter Try.func55, Try.ntmps55
  go_upto_region 1 with (fail)
  have K := below_alloc w (.cells (opv ⟨A0, n0, c0, A1, n1, c1, A2, n2, c2, A3, n3, c3⟩ ⟨kind, addr, err, aad, used, phase, shard, sought, leaf, bit, word, full, at_, tries, item, stamp⟩) 42)
  have O : Bk (World.alloc (w) (.cells (opv ⟨A0, n0, c0, A1, n1, c1, A2, n2, c2, A3, n3, c3⟩ ⟨kind, addr, err, aad, used, phase, shard, sought, leaf, bit, word, full, at_, tries, item, stamp⟩) 42)) (World.heap (w)).size 42 (opv ⟨A0, n0, c0, A1, n1, c1, A2, n2, c2, A3, n3, c3⟩ ⟨kind, addr, err, aad, used, phase, shard, sought, leaf, bit, word, full, at_, tries, item, stamp⟩) := Bk.new _ _ _
  try simp only [World.size_alloc] at O
  generalize (w).alloc (.cells (opv ⟨A0, n0, c0, A1, n1, c1, A2, n2, c2, A3, n3, c3⟩ ⟨kind, addr, err, aad, used, phase, shard, sought, leaf, bit, word, full, at_, tries, item, stamp⟩) 42) = w1 at O K ⊢
  obtain ⟨gO, hgO⟩ : ∃ g, g = w.heap.size := ⟨_, rfl⟩
  rw [← hgO] at O ⊢
  have O_b : w.heap.size ≤ gO := by omega
  clear hgO
  have O_0 := O.at_ (v := .int .i64 (kind)) 0 rfl
  have O_18 := O.at_ (v := .int .i64 (item)) 18 rfl
  have O_2 := O.at_ (v := .slice A0 n0 c0) 2 rfl
  have O_z := O.lt
  go_wp2
  go_ret
  exact ⟨rfl, K⟩
theorem further_any {w : World} {h : Hd} {s : Sc} (hn : h.n0 ≤ 65536) :
    Calls Try.prog 55 #[.agg (opv h s)] w (RetBo (fur h.n0 s) w) := by
  by_cases h0 : s.kind = 4
  · by_cases h1 : 0 ≤ s.item
    · by_cases h2 : s.item + 1 < (h.n0 : Int)
      · have e : fur h.n0 s = true := by unfold fur; simp [h0, h1, h2]
        rw [e]; exact fur3 hn h0 h1 h2
      · have e : fur h.n0 s = false := by unfold fur; simp [h2]
        rw [e]; exact fur2 hn h0 h1 h2
    · have e : fur h.n0 s = false := by unfold fur; simp [h1]
      rw [e]; exact fur1 hn h0 (by omega)
  · have e : fur h.n0 s = false := by unfold fur; simp [h0]
    rw [e]; exact fur0 hn h0
end Go.Proofs.Ytafdlofmgefdoaa

