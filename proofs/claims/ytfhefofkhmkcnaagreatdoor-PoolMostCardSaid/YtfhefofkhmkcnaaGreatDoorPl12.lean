/-
  What the functions that these laws call answer, and what follows of it; conditions: those that each theorem names. In this file: SeekTops.
-/
import Derived.Test.YtfhefofkhmkcnaaGreatDoorPl11
import Derived.RangeFuncNested
import Derived.RangeFuncBound
import Derived.RangeFuncCalls
import Derived.RangeFuncLeaves
import Derived.Shelf.Abstract
import Derived.Shelf.RegionOpen
import Derived.OwnWalkIn
import Derived.TacticsInMore
import Derived.LoopNIn
import Derived.LoopIn
/-
  The tops of a shard's leaves, handed out by an iterator: what it hands to whatever loop's body, and in which order. Conditions: at most 65536 addresses, leaves that there are.
-/
namespace Go.Proofs.YtfhefofkhmkcnaaGreatDoor
set_option maxRecDepth 100000
set_option maxRecDepth 100000
open Go.RowKit Go.Shelf
set_option linter.unusedVariables false
attribute [local go_sem] Oper.semAt_some
/-- A top, as it is handed out. -/
def tpv (n a b t : Nat) : Array Value := #[.int .i64 (t : Nat), .int .i64 ((lv n + t : Nat)), .int .i64 ((lft a t : Nat)), .int .i64 ((bfr a t : Nat)), .int .i64 ((bto b t : Nat))]
abbrev Tp (a b : Nat) := Fin (cnt_ a b)
def tpe (n a b : Nat) (x : Tp a b) : Array Value := #[.agg (tpv n a b (a / 64 + x.val))]
def isPre {a b : Nat} (pre : List (Tp a b)) : Prop := pre.map (·.val) = List.range pre.length
theorem isPre.nil {a b : Nat} : isPre ([] : List (Tp a b)) := rfl
theorem isPre.snoc {a b : Nat} {pre : List (Tp a b)} (h : isPre pre) (x : Tp a b) (hx : x.val = pre.length) : isPre (pre ++ [x]) := by
  unfold isPre at h ⊢
  rw [List.map_append, h, List.length_append]
  simp [List.range_succ, hx]
set_option maxRecDepth 100000 in
set_option maxHeartbeats 2000000 in
theorem tops_in {n a b : Nat} (hn : n ≤ 65536) (hab : a ≤ b) (hb : b ≤ lv n) (k : Nat) (hk : 1 ≤ k) (l b1 b2 b3 n₀ : Nat) (J Jx : List (Tp a b) → World → Prop)
    (hY : ∀ pre x W, J pre W → pre.length < cnt_ a b → YieldAt Fence.wide (k - 1) Tryz.prog l (tpe n a b x) W fun e W' =>
      (e = .returned (.bool true) ∧ J (pre ++ [x]) W' ∧ Below n₀ W W') ∨ (e = .returned (.bool false) ∧ Jx (pre ++ [x]) W'))
    (W : World) (c1 : W.cell? ⟨b1, 0, none⟩ = some (.int .i64 (a : Nat))) (c2 : W.cell? ⟨b2, 0, none⟩ = some (.int .i64 (b : Nat))) (c3 : W.cell? ⟨b3, 0, none⟩ = some (.int .i64 (n : Nat)))
    (l1 : b1 < n₀) (l2 : b2 < n₀) (l3 : b3 < n₀) (h0 : J [] W) :
    CallsIn Fence.wide k Tryz.prog 156 #[.func (.yield l) #[] #[], .pointer (some ⟨b1, 0, none⟩), .pointer (some ⟨b2, 0, none⟩), .pointer (some ⟨b3, 0, none⟩)] W fun e W' => (∃ v, e = .returned v) ∧
      ((∃ ys : List (Tp a b), (isPre ys ∧ ys.length = cnt_ a b) ∧ J ys W') ∨ (∃ pre : List (Tp a b), isPre pre ∧ Jx pre W')) := by
  refine callsIn_of_wp Tryz.func156 rfl trivial ?_ rfl
  simp only [Tryz.ntmps156, List.size_toArray, List.length_cons, List.length_nil, Nat.reduceAdd, Nat.reduceSub, Array.replicate_succ, Array.replicate_zero, List.push_toArray, List.append_toArray, List.nil_append, List.cons_append]
  have hb2 := lv_le hn
  have TR := fun X hX w => Lib.hid (callsIn_wide (n := k - 1).2 (rootof_any n X hn hX w))
  have TT := fun X hX w => Lib.hid (callsIn_wide (n := k - 1).2 (top_any n X hn hX w))
  gi_wp2
  gi_loopw [5] (fun p wr => ∃ (pre : List (Tp a b)) (X : Nat), isPre pre ∧ pre.length ≤ cnt_ a b ∧ X = lfk a b pre.length ∧ p = .int .i64 X ∧ Below n₀ W wr ∧ J pre wr)
    (fun p wr => b - (intOf p).toNat)
  case atStart => exact ⟨[], a, isPre.nil, Nat.zero_le _, (lfk_zero hab).symm, rfl, Below.refl _ _, h0⟩
  case round =>
    obtain ⟨pre, X, hp, hl, hX, rfl, hB, hJ⟩ := hrel
    have d1 : wr.cell? ⟨b1, 0, none⟩ = some (.int .i64 (a : Nat)) := (hB.cell (p := ⟨b1, 0, none⟩) l1).trans c1
    have d2 : wr.cell? ⟨b2, 0, none⟩ = some (.int .i64 (b : Nat)) := (hB.cell (p := ⟨b2, 0, none⟩) l2).trans c2
    have d3 : wr.cell? ⟨b3, 0, none⟩ = some (.int .i64 (n : Nat)) := (hB.cell (p := ⟨b3, 0, none⟩) l3).trans c3
    by_cases hc : pre.length < cnt_ a b
    · obtain ⟨f1, f2, f3, f4, f5, f6⟩ := lfk_at hc
      rw [← hX] at f1 f2 f3 f4 f5 f6
      obtain ⟨fn, tmps, assign, body, hy, hR⟩ := hY pre ⟨pre.length, hc⟩ wr hJ hc
      have ht := bfr_le a b (a / 64 + pre.length) (by omega)
      have hT := TT X (by omega)
      have hRo := TR X (by omega)
      clear TT TR
      rw [f3] at f4 f5 hT
      rw [f2] at hT hRo
      dsimp only [tpe, tpv] at hy
      rw [← f1] at hy
      have hq64 : a / 64 + pre.length ≤ 32 := by omega
      have hcl : lv n + (a / 64 + pre.length) ≤ 4000 := by omega
      generalize a / 64 + pre.length = q at *
      generalize lv n + q = cl at *
      generalize hr_ : bfr a q = r at *
      generalize hu : bto b q = u at *
      generalize hm : min (b - X) (64 - r) = mm at *
      obtain ⟨x1, hx1⟩ : ∃ x : Nat, (b : Int) - (X : Int) = x := ⟨b - X, by omega⟩
      obtain ⟨x2, hx2⟩ : ∃ x : Nat, (64 : Int) - (r : Int) = x := ⟨64 - r, by omega⟩
      have hsum : (r : Int) + (mm : Int) = (u : Int) := by omega
      obtain ⟨X', hX'⟩ : ∃ X', X' = lfk a b (pre.length + 1) := ⟨_, rfl⟩
      rw [← hX'] at f4
      have hnext : (X : Int) + (mm : Int) = (X' : Int) := by omega
      have hX'b : X < X' := by omega
      replace hX := Lib.hid hX
      replace hX' := Lib.hid hX'
      have hmx : Hid (X ≤ 2048 ∧ mm ≤ 64 ∧ u ≤ 64 ∧ r < 64 ∧ mm = min x1 x2) := Lib.hid (by omega)
      clear f1 f2 f3 f4 f5 hm hr_ hu ht
      have hmin : (x1 ≤ x2 ∧ mm = x1) ∨ (x2 < x1 ∧ mm = x2) := by have := hmx.out; omega
      rcases hmin with ⟨hle, rfl⟩ | ⟨hle, rfl⟩
      all_goals
        gi_wp2_with (first
          | (refine ⟨trivial, ?_⟩; (with_reducible refine CallsIn.mono (hRo _).out ?_); rintro e w' ⟨rfl, rfl⟩)
          | (refine ⟨trivial, ?_⟩; (with_reducible refine CallsIn.mono (hT _).out ?_); rintro e w' ⟨rfl, rfl⟩))
        refine hR.mono ?_
        rintro e W3 (⟨rfl, hJ3, hk3⟩ | ⟨rfl, hJx3⟩)
        · gi_wp2
          go_roundw
          case rel => exact ⟨pre ++ [⟨pre.length, hc⟩], X', isPre.snoc hp _ rfl, by simp; omega, by rw [List.length_append]; exact hX'.out, by go_num, Below.trans hB hk3, hJ3⟩
          case measure => simp [intOf]; omega
        · gi_wp2
          refine bodyPost_ret (results_none rfl _ _ _) rfl ?_
          exact ⟨⟨_, rfl⟩, .inr ⟨pre ++ [⟨pre.length, hc⟩], isPre.snoc hp _ rfl, hJx3⟩⟩
    · have : b ≤ X := by have := mt (lfk_lt hab (k := pre.length)).1 hc; omega
      gi_wp2
      go_end0
      exact ⟨⟨_, rfl⟩, .inl ⟨pre, ⟨hp, by omega⟩, hJ⟩⟩
theorem tops_stops {n a b : Nat} (hn : n ≤ 65536) (hab : a ≤ b) (hb : b ≤ lv n) (k : Nat) (hk : 1 ≤ k) (b1 b2 b3 n₀ : Nat) (w : World) (hz : n₀ ≤ w.heap.size)
    (c1 : w.cell? ⟨b1, 0, none⟩ = some (.int .i64 (a : Nat))) (c2 : w.cell? ⟨b2, 0, none⟩ = some (.int .i64 (b : Nat))) (c3 : w.cell? ⟨b3, 0, none⟩ = some (.int .i64 (n : Nat)))
    (l1 : b1 < n₀) (l2 : b2 < n₀) (l3 : b3 < n₀) :
    SeqStopsK Fence.wide k Tryz.prog 156 #[.pointer (some ⟨b1, 0, none⟩), .pointer (some ⟨b2, 0, none⟩), .pointer (some ⟨b3, 0, none⟩)] (tpe n a b) (Below n₀) (fun ys => isPre ys ∧ ys.length = cnt_ a b) isPre (cnt_ a b) w := fun l J Jx W hW _ _ hY h0 =>
  tops_in hn hab hb k hk l b1 b2 b3 n₀ J Jx hY W ((hW.cell (p := ⟨b1, 0, none⟩) (by show b1 < _; omega)).trans c1) ((hW.cell (p := ⟨b2, 0, none⟩) (by show b2 < _; omega)).trans c2) ((hW.cell (p := ⟨b3, 0, none⟩) (by show b3 < _; omega)).trans c3) l1 l2 l3 h0
end Go.Proofs.YtfhefofkhmkcnaaGreatDoor
