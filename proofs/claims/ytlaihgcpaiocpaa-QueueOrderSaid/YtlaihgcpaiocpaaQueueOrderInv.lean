/-
  What holds at the head of QueueOrder's round: the queue's block, its list, and the row of all that went in, which lies apart from it; how each deed carries it on. No conditions beside those that each theorem states.
-/
import Derived.Test.YtlaihgcpaiocpaaQueueAwake
namespace Go.Proofs.Ytlaihgcpaiocpaa.queueOrder
open Go.RowKit
structure Inv (w : World) (g : Nat) (M : Int) (o j : Nat) (L : List Int) (Ai : Option Addr) (ci : Nat) (Aq : Option Addr) (cq : Nat) (cl : Bool) : Prop where
  q : Q3 w g (.int .i64 M) (.slice Aq j cq) (.bool cl)
  i : IS .i64 (g + 1) w Aq j cq (L.drop o)
  own : w.ownsRow (g + 1) 3 1 (.slice Ai (o + j) ci) (o + j) (L.map (iv .i64))
  apart : ∀ b off, 0 < j → Aq = some ⟨b, off, none⟩ → (Value.slice Ai (o + j) ci).ownBlock ≠ some b
theorem own_lt {w : World} {base : Nat} {e : TypeId} {size : Nat} {v : Value} {n : Nat} {xs : List Value} (h : w.ownsRow base e size v n xs) : ∀ g, v.ownBlock = some g → g < w.heap.size := by
  intro g0 hg0
  rcases h.2 with ⟨rfl, _⟩ | ⟨g, cap, cur, rfl, hg, hh, _⟩
  · cases hg0
  · have : g = g0 := by simpa [Value.ownBlock] using hg0
    subst this; exact lt_of_block hh
def set3 (w : World) (g : Nat) (a b c : Value) : World := ((w.setCell ⟨g, 0, none⟩ a).setCell ⟨g, 1, none⟩ b).setCell ⟨g, 2, none⟩ c
theorem own_set3 {w : World} {g : Nat} {e : TypeId} {v : Value} {n : Nat} {xs : List Value} (h : w.ownsRow (g + 1) e 1 v n xs) (a b c : Value) : (set3 w g a b c).ownsRow (g + 1) e 1 v n xs :=
  ownsRow_setCell_below (ownsRow_setCell_below (ownsRow_setCell_below h (a := ⟨g, 0, none⟩) (Nat.lt_succ_self g) a) (a := ⟨g, 1, none⟩) (Nat.lt_succ_self g) b) (a := ⟨g, 2, none⟩) (Nat.lt_succ_self g) c
theorem is_set3 {k : IntKind} {w : World} {g : Nat} {A : Option Addr} {n d : Nat} {xs : List Int} (h : IS k (g + 1) w A n d xs) (a b c : Value) : IS k (g + 1) (set3 w g a b c) A n d xs :=
  ((h.set_low (p := ⟨g, 0, none⟩) (Nat.lt_succ_self g) a).set_low (p := ⟨g, 1, none⟩) (Nat.lt_succ_self g) b).set_low (p := ⟨g, 2, none⟩) (Nat.lt_succ_self g) c
theorem below_set3 {B : Nat} {a w : World} (h : Below B a w) {g : Nat} (hg : B ≤ g) (x y z : Value) : Below B a (set3 w g x y z) :=
  ((h.setCell (p := ⟨g, 0, none⟩) hg x).setCell (p := ⟨g, 1, none⟩) hg y).setCell (p := ⟨g, 2, none⟩) hg z
section
variable {w w4 : World} {g : Nat} {M : Int} {o j : Nat} {L : List Int} {Ai : Option Addr} {ci : Nat} {Aq : Option Addr} {cq : Nat} {cl : Bool}
theorem Inv.len (h : Inv w g M o j L Ai ci Aq cq cl) : L.length = o + j := by have := h.own.1; simpa using this
theorem Inv.alloc (h : Inv w g M o j L Ai ci Aq cq cl) (ob : Obj) : Inv (w.alloc ob) g M o j L Ai ci Aq cq cl :=
  ⟨h.q.alloc ob, h.i.below (below_alloc w ob), own_below h.own (below_alloc w ob), h.apart⟩
theorem Inv.below (h : Inv w g M o j L Ai ci Aq cq cl) (K : Below w.heap.size w w4) : Inv w4 g M o j L Ai ci Aq cq cl :=
  ⟨h.q.below K, h.i.below K, own_below h.own K, h.apart⟩
theorem Inv.inI (h : Inv w g M o j L Ai ci Aq cq cl) : IS .i64 (g + 1) w Ai (o + j) ci L := by
  obtain ⟨A, c, e, I⟩ := IS.of_own h.own
  injection e with e1 _ e2
  subst e1; subst e2
  exact I
/-- The queue is stored as it was. -/
theorem Inv.again (h : Inv w g M o j L Ai ci Aq cq cl) (K : Below w.heap.size w w4) : Inv (set3 w4 g (.int .i64 M) (.slice Aq j cq) (.bool cl)) g M o j L Ai ci Aq cq cl :=
  ⟨(h.q.below K).set_ _ _ _, is_set3 (h.i.below K) _ _ _, own_set3 (own_below h.own K) _ _ _, h.apart⟩
/-- A queue that was made anew is stored; nothing went in. -/
theorem Inv.store (h : Inv w g M o j L Ai ci Aq cq cl) (K : Below w.heap.size w w4) {A' : Option Addr} {o' j' c' : Nat} (I : IS .i64 w.heap.size w4 A' j' c' (L.drop o')) (e : o + j = o' + j') (cl' : Bool) :
    Inv (set3 w4 g (.int .i64 M) (.slice A' j' c') (.bool cl')) g M o' j' L Ai ci A' c' cl' := by
  refine ⟨(h.q.below K).set_ _ _ _, is_set3 (I.lower h.q.lt) _ _ _, ?_, ?_⟩
  · rw [← e]; exact own_set3 (own_below h.own K) _ _ _
  · intro b off hj hA hb
    obtain ⟨b', o2, e2, hl, _⟩ := I.cells hj
    rw [hA] at e2
    injection e2 with e2
    injection e2 with e2
    have := own_lt h.own b (by rw [← hb, e])
    omega
/-- A number went in: it is put, and kept. -/
theorem Inv.push (h : Inv w g M o j L Ai ci Aq cq cl) (K : Below w.heap.size w w4) {A' : Option Addr} {c' : Nat} {d : Int} (I : IS .i64 w.heap.size w4 A' (j + 1) c' (L.drop o ++ [d])) {w5 w6 : World} (K5 : Below w4.heap.size w4 w5) {A2 : Option Addr} {c2 : Nat}
    (O6 : w6.ownsRow (g + 1) 3 1 (.slice A2 (o + j + 1) c2) (o + j + 1) ((L ++ [d]).map (iv .i64))) (G6 : w5.grownBy w6 (Value.slice Ai (o + j) ci).ownBlock)
    (B6 : (Value.slice A2 (o + j + 1) c2).ownBlock = (Value.slice Ai (o + j) ci).ownBlock ∨ (Value.slice A2 (o + j + 1) c2).ownBlock = some w5.heap.size) :
    Inv (set3 w6 g (.int .i64 M) (.slice A' (j + 1) c') (.bool cl)) g M o (j + 1) (L ++ [d]) A2 c2 A' c' cl := by
  have hold := own_lt h.own
  have s4 := K.size
  have s5 := K5.size
  have L6 : Below (g + 1) w5 w6 := (Below.refl _ _).grown G6 (by have := h.q.lt; omega) (own_ge h.own)
  refine ⟨(((h.q.below K).below K5).under L6 (Nat.lt_succ_self g)).set_ _ _ _, is_set3 ?_ _ _ _, own_set3 O6 _ _ _, ?_⟩
  · rw [List.drop_append_of_le_length (by have := h.len; omega)]
    refine ((I.below K5).keep G6.size fun b off hn hA hb => ?_).lower h.q.lt
    obtain ⟨b', o2, e2, hl, _⟩ := I.cells hn
    rw [hA] at e2
    injection e2 with e2
    injection e2 with e2
    exact G6.block b hb (fun e => by have := hold b e.symm; omega)
  · intro b off hj hA hb
    obtain ⟨b', o2, e2, hl, hl2, _⟩ := I.cells hj
    rw [hA] at e2
    injection e2 with e2
    injection e2 with e2
    have hb' : (Value.slice A2 (o + j + 1) c2).ownBlock = some b := hb
    rcases B6 with hB | hB
    · have := hold b (by rw [← hB]; exact hb'); omega
    · rw [hB] at hb'
      injection hb' with hb'
      omega
/-- The struct that was made ahead of the append is as it was. -/
theorem Inv.local_ (h : Inv w g M o j L Ai ci Aq cq cl) {w5 w6 : World} (hs : w.heap.size ≤ w4.heap.size) {a b c : Value} (Hn : Q3 w5 w4.heap.size a b c) (G6 : w5.grownBy w6 (Value.slice Ai (o + j) ci).ownBlock) : Q3 w6 w4.heap.size a b c :=
  (G6.block _ Hn.lt (fun e => by have := own_lt h.own _ e.symm; omega)).trans Hn
end
theorem take_one {w : World} {m : Int} {A : Option Addr} {j c lo o : Nat} {L : List Int} {cl : Bool} (I : IS .i64 lo w A (j + 1) c (L.drop o)) (hn : j + 1 ≤ 65536) :
    Calls Try.prog 13 #[.agg #[.int .i64 m, .slice A (j + 1) c, .bool cl]] w fun e w' => ∃ A' c', e = .returned (.tuple #[.agg #[.int .i64 m, .slice A' j c', .bool cl], .int .i64 (gi L o), .bool true]) ∧ IS .i64 w.heap.size w' A' j c' (L.drop (o + 1)) ∧ Below w.heap.size w w' := by
  have h := take_some (m := m) (cl := cl) I (Nat.succ_pos _) hn
  rw [gi_drop, List.drop_drop, Nat.add_zero] at h
  exact h
end Go.Proofs.Ytlaihgcpaiocpaa.queueOrder
