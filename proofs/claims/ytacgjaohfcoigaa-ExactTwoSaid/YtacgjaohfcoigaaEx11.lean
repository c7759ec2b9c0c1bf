/-
  What the functions that these laws call answer, and what follows of it; conditions: those that each theorem names. In this file: ModelMath, ModelRow, ModelAddrs, ModelRefs, ModelNew, ModelUses, GrantRun, ExactMath, ExactRun, AskMath, AskLib, AskNames, AskCheck, AskRefs, ExactR0, ExactRight, ExactGx, ExactStep.
-/
import Derived.Test.YtacgjaohfcoigaaEx10
import Derived.Lib.AppendZerosOnto
import Derived.Lib.Walk
/-
  Sets as rising lists of integers: an offset put in, or taken away, is told by what is in alone; where an offset stands; when a list is a set that may be, and all of it; the set that a test tells. No program in it.
-/
namespace Go.Proofs.Ytacgjaohfcoigaa
set_option maxRecDepth 100000
def Ris (xs : List Int) : Prop := xs.Pairwise (· < ·)
theorem Ris.ext {xs ys : List Int} (hx : Ris xs) (hy : Ris ys) (h : ∀ z, z ∈ xs ↔ z ∈ ys) : xs = ys := by
  induction xs generalizing ys with
  | nil =>
    cases ys with
    | nil => rfl
    | cons y t => have := (h y).2 (by simp); cases this
  | cons x r ih =>
    cases ys with
    | nil => have := (h x).1 (by simp); cases this
    | cons y t =>
      obtain ⟨hx1, hx2⟩ := List.pairwise_cons.1 hx
      obtain ⟨hy1, hy2⟩ := List.pairwise_cons.1 hy
      have e : x = y := by
        have h1 := (h x).1 (by simp)
        have h2 := (h y).2 (by simp)
        rcases List.mem_cons.1 h1 with h1 | h1
        · exact h1
        · rcases List.mem_cons.1 h2 with h2 | h2
          · exact h2.symm
          · have := hx1 _ h2
            have := hy1 _ h1
            omega
      subst e
      congr 1
      refine ih hx2 hy2 fun z => ⟨fun hz => ?_, fun hz => ?_⟩
      · rcases List.mem_cons.1 ((h z).1 (List.mem_cons_of_mem _ hz)) with e | g
        · have := hx1 _ hz; omega
        · exact g
      · rcases List.mem_cons.1 ((h z).2 (List.mem_cons_of_mem _ hz)) with e | g
        · have := hy1 _ hz; omega
        · exact g
theorem Ris.lt {xs : List Int} (h : Ris xs) {i j : Nat} (hij : i < j) (hj : j < xs.length) : gi xs i < gi xs j := by
  rw [gi_at (by omega), gi_at hj]
  exact List.pairwise_iff_getElem.1 h i j (by omega) hj hij
theorem Ris.le {xs : List Int} (h : Ris xs) {i j : Nat} (hij : i ≤ j) (hj : j < xs.length) : gi xs i ≤ gi xs j := by
  rcases Nat.lt_or_ge i j with g | g
  · have := h.lt g hj; omega
  · obtain rfl : i = j := by omega
    exact Int.le_refl _
theorem Ris.nil : Ris [] := List.Pairwise.nil
/-- Those below x, and those above it. -/
def lo_ (xs : List Int) (x : Int) : List Int := xs.filter fun y => decide (y < x)
def hi_ (xs : List Int) (x : Int) : List Int := xs.filter fun y => decide (x < y)
def ins (xs : List Int) (x : Int) : List Int := lo_ xs x ++ x :: hi_ xs x
def del (xs : List Int) (x : Int) : List Int := xs.filter fun y => decide (y ≠ x)
def at_ (xs : List Int) (x : Int) : Nat := (lo_ xs x).length
theorem mem_lo {xs : List Int} {x z : Int} : z ∈ lo_ xs x ↔ z ∈ xs ∧ z < x := by unfold lo_; simp
theorem mem_hi {xs : List Int} {x z : Int} : z ∈ hi_ xs x ↔ z ∈ xs ∧ x < z := by unfold hi_; simp
theorem mem_ins {xs : List Int} {x z : Int} : z ∈ ins xs x ↔ z = x ∨ z ∈ xs := by
  unfold ins
  rw [List.mem_append, List.mem_cons, mem_lo, mem_hi]
  constructor
  · rintro (⟨h, _⟩ | h | ⟨h, _⟩)
    · exact .inr h
    · exact .inl h
    · exact .inr h
  · rintro (h | h)
    · exact .inr (.inl h)
    · rcases Int.lt_trichotomy z x with g | g | g
      · exact .inl ⟨h, g⟩
      · exact .inr (.inl g)
      · exact .inr (.inr ⟨h, g⟩)
theorem Ris.lo {xs : List Int} (h : Ris xs) (x : Int) : Ris (lo_ xs x) := List.Pairwise.filter _ h
theorem Ris.hi {xs : List Int} (h : Ris xs) (x : Int) : Ris (hi_ xs x) := List.Pairwise.filter _ h
theorem Ris.del {xs : List Int} (h : Ris xs) (x : Int) : Ris (del xs x) := List.Pairwise.filter _ h
theorem Ris.two {xs ys : List Int} (hx : Ris xs) (hy : Ris ys) (h : ∀ a ∈ xs, ∀ b ∈ ys, a < b) : Ris (xs ++ ys) := List.pairwise_append.2 ⟨hx, hy, h⟩
theorem Ris.cons {x : Int} {ys : List Int} (hy : Ris ys) (h : ∀ b ∈ ys, x < b) : Ris (x :: ys) := List.pairwise_cons.2 ⟨h, hy⟩
theorem Ris.ins {xs : List Int} (h : Ris xs) (x : Int) : Ris (ins xs x) := by
  refine Ris.two (h.lo x) (Ris.cons (h.hi x) fun b hb => (mem_hi.1 hb).2) fun a ha b hb => ?_
  have h1 := (mem_lo.1 ha).2
  rcases List.mem_cons.1 hb with rfl | hb
  · exact h1
  · have := (mem_hi.1 hb).2; omega
theorem ins_in {xs : List Int} (h : Ris xs) {x : Int} (hx : hasB xs x = true) : ins xs x = xs :=
  (h.ins x).ext h fun z => by
    rw [mem_ins]
    have := of_decide_eq_true hx
    constructor
    · rintro (rfl | g)
      · exact this
      · exact g
    · exact .inr
theorem hasB_iff {xs : List Int} {x : Int} : hasB xs x = true ↔ x ∈ xs := by unfold hasB; simp
theorem len_ins {xs : List Int} (x : Int) : (ins xs x).length ≤ xs.length + 1 := by
  have key : ∀ ys : List Int, (lo_ ys x).length + (hi_ ys x).length ≤ ys.length := by
    intro ys
    induction ys with
    | nil => simp [lo_, hi_]
    | cons y t ih =>
      unfold lo_ hi_ at ih ⊢
      rw [List.filter_cons, List.filter_cons]
      by_cases h1 : y < x
      · rw [if_pos (by simpa using h1), if_neg (by simp; omega)]; simp only [List.length_cons]; omega
      · rw [if_neg (by simpa using h1)]
        split
        · simp only [List.length_cons]; omega
        · simp only [List.length_cons]; omega
  have := key xs
  unfold ins
  rw [List.length_append, List.length_cons]
  omega
/-- The set that a test tells, below k. -/
def os (f : Nat → Bool) : Nat → List Int
  | 0 => []
  | k + 1 => os f k ++ (if f k = true then [(k : Int)] else [])
theorem os_yes {f : Nat → Bool} {k : Nat} (h : f k = true) : os f (k + 1) = os f k ++ [(k : Int)] := by rw [os, if_pos h]
theorem os_no {f : Nat → Bool} {k : Nat} (h : f k = false) : os f (k + 1) = os f k := by rw [os, h]; simp
theorem mem_os {f : Nat → Bool} {k : Nat} {z : Int} : z ∈ os f k ↔ ∃ i : Nat, i < k ∧ f i = true ∧ z = (i : Int) := by
  induction k with
  | zero => exact ⟨fun h => (by cases h), fun ⟨i, hi, _⟩ => by omega⟩
  | succ k ih =>
    rw [os, List.mem_append, ih]
    constructor
    · rintro (⟨i, h1, h2, h3⟩ | h)
      · exact ⟨i, by omega, h2, h3⟩
      · split at h
        · rename_i e
          exact ⟨k, by omega, e, by simpa using h⟩
        · cases h
    · rintro ⟨i, h1, h2, h3⟩
      rcases Nat.lt_or_ge i k with g | g
      · exact .inl ⟨i, g, h2, h3⟩
      · obtain rfl : i = k := by omega
        rw [if_pos h2]
        exact .inr (by simpa using h3)
theorem ris_os (f : Nat → Bool) (k : Nat) : Ris (os f k) := by
  induction k with
  | zero => exact Ris.nil
  | succ k ih =>
    rw [os]
    refine Ris.two ih ?_ ?_
    · split
      · exact List.pairwise_singleton _ _
      · exact Ris.nil
    · intro a ha b hb
      obtain ⟨i, h1, _, rfl⟩ := mem_os.1 ha
      split at hb
      · have : b = (k : Int) := by simpa using hb
        omega
      · cases hb
theorem len_os (f : Nat → Bool) (k : Nat) : (os f k).length ≤ k := by
  induction k with
  | zero => exact Nat.le_refl _
  | succ k ih =>
    rw [os, List.length_append]
    split
    · simp; omega
    · simp; omega
theorem os_congr {f g : Nat → Bool} {k m : Nat} (h : ∀ i, (i < k ∧ f i = true) ↔ (i < m ∧ g i = true)) : os f k = os g m :=
  (ris_os f k).ext (ris_os g m) fun z => by
    rw [mem_os, mem_os]
    constructor
    · rintro ⟨i, h1, h2, h3⟩
      have := (h i).1 ⟨h1, h2⟩
      exact ⟨i, this.1, this.2, h3⟩
    · rintro ⟨i, h1, h2, h3⟩
      have := (h i).2 ⟨h1, h2⟩
      exact ⟨i, this.1, this.2, h3⟩
/-- Which offsets are used: bit set, not reserved. -/
def uf (hs : List Int) (ys : List Nat) (i : Nat) : Bool := (gt ys (i / 32)).testBit (i % 32) && !hasB hs (i : Int)
end Go.Proofs.Ytacgjaohfcoigaa

/-
  Rows of integers of the call's own: one more appended, a list appended, one made by appending where there is no room. Conditions: at most 65536 numbers.
-/
namespace Go.Proofs.Ytacgjaohfcoigaa
set_option maxRecDepth 100000
open Go.RowKit
theorem int_info : (Try.prog.info? 3).map (fun i => (i.zero, i.size, i.bytes)) = some (some (Value.int .i64 0), 1, 8) := by kernel_rfl
theorem u32_info : (Try.prog.info? 22).map (fun i => (i.zero, i.size, i.bytes)) = some (some (Value.int .u32 0), 1, 4) := by kernel_rfl
section
variable {k : IntKind} {t : TypeId} {w w' : World} {base n c : Nat} {A : Option Addr} {v : Value} {xs : List Int}
end
section
variable {P : Program} {k : IntKind} {t e : TypeId} {i : TypeInfo}
/-- append onto a row of the call's own, whatever its numbers' bytes. -/
theorem run_app {w : World} {base lo : Nat} {B : Option Addr} {m d : Nat} {ys : List Int} {A : Option Addr} {n c : Nat} {xs : List Int} (ht : P.underlying t = some (.slice e)) (hi : P.info? e = some i) (hz : i.zero = some (.int k 0)) (hsize : i.size = 1) (hby : i.bytes ≤ 8)
    (hown : Ri k e w base (.slice B m d) m ys) (h : IS k lo w A n c xs) (hn : m + n ≤ 65536) (hbase : base ≤ w.heap.size) (ty : TypeId) :
    ∃ A' c' w', (Builtin.append_ #[t, t] ty #[.slice B m d, .slice A n c]).run P w = .ok (.slice A' (m + n) c') w' ∧ Ri k e w' base (.slice A' (m + n) c') (m + n) (ys ++ xs) ∧ Below base w w' := by
  have hl := h.len
  rcases A with _ | ad
  · obtain rfl := h.nil_ rfl
    obtain rfl : n = 0 := by have := h.cap; omega
    obtain rfl : xs = [] := List.eq_nil_of_length_eq_zero hl
    have hr := run_append_owned_none (P := P) w base t ty e i 1 ht hi _ m (ys.map (iv k)) hown
    exact ⟨B, d, w, hr, by rw [List.append_nil]; exact hown, Below.refl _ _⟩
  · have hcells : ∀ j u, (xs.map (iv k))[j]? = some u → w.cell? (ad.add j) = some u := by
      intro j u hu
      rcases Nat.eq_zero_or_pos n with h0 | h0
      · subst h0
        obtain rfl : xs = [] := List.eq_nil_of_length_eq_zero hl
        simp at hu
      · obtain ⟨ad', e', hc⟩ := h.src h0
        injection e' with e'
        subst e'
        exact hc j u hu
    have hb : (m + n) * i.bytes ≤ 140737488355328 := Nat.le_trans (Nat.mul_le_mul hn hby) (by omega)
    obtain ⟨v', w', hrun, h2, h3, _, h5⟩ := run_append_own_at (P := P) w base t ty e i _ 1 i.bytes ht hi hz hsize rfl rfl (by omega) _ m (ys.map (iv k)) hown ad n c (xs.map (iv k)) (by simp [hl]) hcells (iv_one k xs) (by unfold maxLen; omega) hb hbase
    rw [← List.map_append] at h2
    obtain ⟨A', c', rfl, _⟩ := IS.of_own h2
    exact ⟨A', c', w', hrun, h2, (Below.refl _ _).grown h3 hbase (own_ge hown)⟩
/-- append of one number that has just been laid. -/
theorem run_app1 {w : World} {base : Nat} {B : Option Addr} {m d : Nat} {ys : List Int} {x : Int} (ht : P.underlying t = some (.slice e)) (hi : P.info? e = some i) (hz : i.zero = some (.int k 0)) (hsize : i.size = 1) (hby : i.bytes ≤ 8)
    (hown : Ri k e w base (.slice B m d) m ys) (hn : m + 1 ≤ 65536) (hbase : base ≤ w.heap.size) (ty : TypeId) :
    ∃ A' c' w', (Builtin.append_ #[t, t] ty #[.slice B m d, .slice (some ⟨w.heap.size, 0, none⟩) 1 1]).run P (w.alloc (.cells #[.int k x] e)) = .ok (.slice A' (m + 1) c') w' ∧ Ri k e w' base (.slice A' (m + 1) c') (m + 1) (ys ++ [x]) ∧ Below base w w' := by
  have K0 := below_alloc w (.cells #[.int k x] e)
  have hs := gone (k := k) (w := w.alloc (.cells #[.int k x] e)) (x := x) (g := w.heap.size) (cell_new w _ _) (by unfold maxLen; omega)
  obtain ⟨A', c', w', hr, O, G⟩ := run_app ht hi hz hsize hby (hown.below K0) hs hn (Nat.le_trans hbase K0.size) ty
  exact ⟨A', c', w', hr, O, (K0.mono hbase).trans G⟩
end
end Go.Proofs.Ytacgjaohfcoigaa

/-
  What Addrs of package model, and the document's, answer of a set that may be: its addresses; the program's lie in new memory; nothing that was there is otherwise. Conditions: offsets from 0 to 65536.
-/
namespace Go.Proofs.Ytacgjaohfcoigaa
set_option maxRecDepth 100000
open Go.RowKit
/-- The block g is just these numbers. -/
def Bi (k : IntKind) (w : World) (g : Nat) (t : TypeId) (xs : List Int) : Prop := Bk w g t (xs.map (iv k)).toArray
section
variable {k : IntKind} {w w' : World} {g : Nat} {t : TypeId} {xs : List Int}
theorem Bi.cell (h : Bi k w g t xs) {i : Nat} (hi : i < xs.length) : w.cell? ⟨g, i, none⟩ = some (.int k (gi xs i)) := by
  refine Bk.at_ h i ?_
  rw [gi_at hi]
  simp [iv, hi]
theorem Bi.below (h : Bi k w g t xs) (K : Below w.heap.size w w') : Bi k w' g t xs := Bk.below h K
theorem Bi.set_ (h : Bi k w g t xs) (i : Nat) (v : Int) : Bi k (w.setCell ⟨g, i, none⟩ (.int k v)) g t (xs.set i v) := by
  have := Bk.set_ h i (.int k v)
  unfold Bi
  rw [List.map_set]
  simpa [iv] using this
theorem Bi.is {n : Nat} (h : Bi k w g t xs) (hn : xs.length = n) (hm : n ≤ 65536) : IS k 0 w (some ⟨g, 0, none⟩) n n xs :=
  ⟨hn, Nat.le_refl _, by unfold maxLen; omega, (fun e => by cases e), fun _ => ⟨g, 0, rfl, Nat.zero_le _, Bk.lt h, fun j hj => by rw [Nat.zero_add]; exact h.cell (by omega)⟩⟩
theorem Bi.of_made {base n : Nat} (h : w.ownsRow base t 1 (.slice (some ⟨g, 0, none⟩) n n) n (madeCells (Value.int k 0).cells (n * 1)).toList) : Bi k w g t (List.replicate n 0) := by
  rcases h.2 with ⟨hv, _⟩ | ⟨g', cap, cur, hv, hb, hh, hnc, hcm, hcs, ht⟩
  · cases hv
  · injection hv with h1 h2 h3
    injection h1 with h1
    injection h1 with h1
    subst h1; subst h3
    unfold Bi Bk
    rw [hh]
    have e : cur.toList = (madeCells (Value.int k 0).cells (n * 1)).toList := by
      rw [← ht, List.take_of_length_le (by simp; omega)]
    have e2 : (madeCells (Value.int k 0).cells (n * 1)).toList = (List.replicate n 0).map (iv k) := by
      simp only [madeCells, Value.cells, iv, Nat.mul_one, Array.toList_map, Array.toList_range, List.map_replicate]
      apply List.ext_getElem (by simp)
      intro i h1 h2
      have e1 : i % 1 = 0 := by omega
      simp [e1]
    have e3 : cur = ((List.replicate n 0).map (iv k)).toArray := by rw [← e2, ← e]
    rw [e3]
end
/-- An offset's address. -/
def ad (a : Nat) (x : Int) : Int := ((a + x.toNat) % 4294967296 : Nat)
def ads (a : Nat) (xs : List Int) : List Int := xs.map (ad a)
section
variable {w : World} {lo a M : Nat} {p sh wo qu tr : Int} {A B : Option Addr} {n c m d : Nat} {xs : List Int}
end
end Go.Proofs.Ytacgjaohfcoigaa

/-
  What the document's own sets answer (Rises, Has, With, Without, Ints, Addrs held against one another): the same as the program's; nothing that was there is otherwise. Conditions: at most 65535 numbers.
-/
namespace Go.Proofs.Ytacgjaohfcoigaa
set_option maxRecDepth 100000
open Go.RowKit
section
variable {w : World} {lo lo' : Nat} {A A' : Option Addr} {n n' c c' : Nat} {xs : List Int}
theorem ints_same (h : IS .i64 lo w A n c xs) (h' : IS .i64 lo' w A' n' c' xs) (hn : n ≤ 65536) :
    Calls Try.prog 15 #[.slice A n c, .slice A' n' c'] w (RetBo true w) := by
  obtain rfl : n = n' := h.len.symm.trans h'.len
  have e0 : ((n : Int) != (n : Int)) = false := by simp
  go_enter Try.func15, Try.ntmps15
  go_wp2
  go_loopw [5] (fun i wr => ∃ k : Nat, k ≤ n ∧ i = .int .i64 k ∧ Below w.heap.size w wr) (fun i _ => n - (intOf i).toNat)
  case atStart => exact ⟨0, Nat.zero_le _, rfl, Below.refl _ _⟩
  case round =>
    obtain ⟨k, hk, rfl, Kr⟩ := hrel
    by_cases hlt : k < n
    · obtain ⟨b, o, rfl, _, hc⟩ := (h.below Kr).get hlt
      obtain ⟨b', o', rfl, _, hc'⟩ := (h'.below Kr).get hlt
      have e1 : (gi xs k != gi xs k) = false := by simp
      go_wp2
      go_quiet (fail)
      go_wp2
      go_roundw
      case rel => exact ⟨k + 1, by omega, by go_num, below_drewN Kr _⟩
      case measure => simp [intOf]; omega
    · go_wp2
      go_ret
      exact ⟨rfl, Kr⟩
theorem rhas9_any (h : IS .i64 lo w A n c xs) (hn : n ≤ 65536) (x : Int) :
    Calls Try.prog 14 #[.slice A n c, .int .i64 x] w fun e w' => e = .returned (.bool (hasB xs x)) ∧ w = w' := by
  have hl := h.len
  go_enter Try.func14, Try.ntmps14
  go_wp2
  go_loop [5] (fun i => ∃ k : Nat, k ≤ n ∧ i = .int .i64 k ∧ Hid (∀ j, j < k → gi xs j ≠ x)) (fun i => n - (intOf i).toNat)
  case atStart => exact ⟨0, Nat.zero_le _, rfl, fun j hj => by omega⟩
  case round =>
    obtain ⟨k, hk, rfl, HH⟩ := hrel
    by_cases hlt : k < n
    · obtain ⟨b, o, rfl, _, hc⟩ := h.get hlt
      by_cases he : gi xs k = x
      · have e1 : (gi xs k == x) = true := by simp [he]
        have hx : hasB xs x = true := decide_eq_true (mem_gi.2 ⟨k, by omega, he⟩)
        clear he
        go_wp2
        go_ret
        exact ⟨by first | rfl | exact ret_bool hx.symm, rfl⟩
      · have e1 : (gi xs k == x) = false := by simpa using he
        have H2 : Hid (∀ j, j < k + 1 → gi xs j ≠ x) := fun j hj => by
          rcases Nat.lt_or_ge j k with g | g
          · exact HH.out j g
          · obtain rfl : j = k := by omega
            exact he
        clear he
        go_wp2
        go_round
        case rel => exact ⟨k + 1, by omega, by go_num, H2⟩
        case measure => simp [intOf]; omega
    · have hx : hasB xs x = false := decide_eq_false (fun g => by
        obtain ⟨j, hj, e⟩ := mem_gi.1 g
        exact HH.out j (by omega) e)
      go_wp2
      go_ret
      exact ⟨by first | rfl | exact ret_bool hx.symm, rfl⟩
theorem IS.here {k : IntKind} {b o : Nat} (h : IS k lo w (some ⟨b, o, none⟩) n c xs) {j : Nat} (hj : j < n) : w.cell? ⟨b, o + j, none⟩ = some (.int k (gi xs j)) := by
  obtain ⟨b', o', e, _, hc⟩ := h.get hj
  injection e with e
  injection e with e1 e2
  subst e1 e2
  exact hc
theorem ris_take (h : Ris xs) (k : Nat) : Ris (xs.take k) := List.Pairwise.sublist (List.take_sublist _ _) h
theorem ris_snoc {l : List Int} {y : Int} (h : Ris (l ++ [y])) : Ris l ∧ ∀ z ∈ l, z < y := by
  obtain ⟨h1, _, h3⟩ := List.pairwise_append.1 h
  exact ⟨h1, fun z hz => h3 z hz y (by simp)⟩
theorem ins_snoc {l : List Int} {x y : Int} (h : Ris (l ++ [y])) (hx : x < y) : ins l x ++ [y] = ins (l ++ [y]) x := by
  obtain ⟨h1, h2⟩ := ris_snoc h
  refine Ris.ext (Ris.two (h1.ins x) (List.pairwise_singleton _ _) fun z hz b hb => ?_) (h.ins x) fun z => ?_
  · have : b = y := by simpa using hb
    subst this
    rcases mem_ins.1 hz with rfl | hz
    · exact hx
    · exact h2 z hz
  · rw [List.mem_append, mem_ins, mem_ins, List.mem_append, or_assoc]
theorem ins_last {l : List Int} {x : Int} (h : Ris l) (hx : ∀ z ∈ l, z < x) : l ++ [x] = ins l x := by
  refine Ris.ext (Ris.two h (List.pairwise_singleton _ _) fun z hz b hb => ?_) (h.ins x) fun z => ?_
  · have : b = x := by simpa using hb
    subst this
    exact hx z hz
  · rw [List.mem_append, mem_ins]
    simp only [List.mem_singleton]
    exact Or.comm
theorem mem_take_gi {xs : List Int} {k : Nat} {z : Int} (hk : k ≤ xs.length) : z ∈ xs.take k ↔ ∃ j, j < k ∧ gi xs j = z := by
  constructor
  · intro h
    obtain ⟨j, hj, e⟩ := List.getElem_of_mem h
    rw [List.getElem_take] at e
    rw [List.length_take] at hj
    exact ⟨j, by omega, by rw [gi_at (by omega)]; exact e⟩
  · rintro ⟨j, hj, rfl⟩
    rw [gi_at (by omega)]
    exact List.mem_take_iff_getElem.2 ⟨j, by omega, rfl⟩
end
end Go.Proofs.Ytacgjaohfcoigaa

/-
  What the document's own Of and With answer, in new memory.
-/
namespace Go.Proofs.Ytacgjaohfcoigaa
set_option maxRecDepth 100000
open Go.RowKit
def RetIN (k : IntKind) (xs : List Int) (w : World) (e : Ending) (w' : World) : Prop := ∃ A n c, e = .returned (.slice A n c) ∧ IS k w.heap.size w' A n c xs ∧ Below w.heap.size w w'
section
variable {w : World} {lo lo' : Nat} {A A' : Option Addr} {n n' c c' : Nat} {xs : List Int}
set_option maxHeartbeats 1000000 in
theorem rwith_new (h : IS .i64 lo w A n c xs) (hn : n < 65536) (hr : Ris xs) (x : Int) :
    Calls Try.prog 16 #[.slice A n c, .int .i64 x] w (RetIN .i64 (ins xs x) w) := by
  have hl := h.len
  replace hr := Lib.hid hr
  go_enter Try.func16, Try.ntmps16
  go_wp2
  go_loopw [5, 6, 7] (fun s dn i wr => ∃ (k q e : Nat) (C : Option Addr) (b : Bool), k ≤ n ∧ i = .int .i64 k ∧ s = .slice C q e ∧ dn = .bool b ∧ Hid ((b = true → ∃ j, j < k ∧ x ≤ gi xs j) ∧ (b = false → ∀ j, j < k → gi xs j < x)) ∧ Hid (Ri .i64 3 wr w.heap.size (.slice C q e) q (if b = true then ins (xs.take k) x else xs.take k)) ∧ Below w.heap.size w wr) (fun _ _ i _ => n - (intOf i).toNat)
  case atStart => exact ⟨0, 0, 0, none, false, Nat.zero_le _, rfl, rfl, rfl, ⟨(fun e => by cases e), fun _ j hj => by omega⟩, Lib.hid (Ri.nil _ _), Below.refl _ _⟩
  case round =>
    obtain ⟨k, q, e, C, dn, hk, rfl, rfl, rfl, HD, HR, Kr⟩ := hrel
    by_cases hlt : k < n
    · obtain ⟨b, o, rfl, _, hc⟩ := (h.below Kr).get hlt
      have ht := Lib.hid (take_gi (xs := xs) (j := k) (by omega))
      have hrt := Lib.hid (ris_take hr.out (k + 1))
      obtain ⟨i0, hi, hz0, hz1, hz2⟩ := info_parts int_info
      have hql : q ≤ k + 1 := by
        have h1 := HR.out.len
        have h2 := len_ins (xs := xs.take k) x
        rw [List.length_take] at h2
        split at h1
        · omega
        · rw [List.length_take] at h1; omega
      cases dn with
      | true =>
        obtain ⟨j, hj, hxj⟩ := HD.out.1 rfl
        have hgt : x < gi xs k := by have := hr.out.lt hj (by omega); omega
        obtain ⟨C2, e2, w5, hap, R5, K5⟩ := run_app1 (P := Try.prog) (x := gi xs k) Try.underlying25 hi hz0 hz1 (by omega) HR.out (by omega) Kr.size 25
        have HA := Lib.hid hap
        have E : ins (xs.take k) x ++ [gi xs k] = ins (xs.take (k + 1)) x := by
          have := hrt.out
          rw [ht.out] at this ⊢
          exact ins_snoc this hgt
        have HR2 : Hid (Ri .i64 3 w5 w.heap.size (.slice C2 (q + 1) e2) (q + 1) (if true = true then ins (xs.take (k + 1)) x else xs.take (k + 1))) := by
          rw [if_pos rfl] at R5 ⊢
          rw [E] at R5
          exact R5
        have HD2 : Hid ((true = true → ∃ j, j < k + 1 ∧ x ≤ gi xs j) ∧ (true = false → ∀ j, j < k + 1 → gi xs j < x)) := ⟨fun _ => ⟨j, by omega, hxj⟩, fun e => by cases e⟩
        have K6 := Kr.trans K5
        clear HR hap R5 K5 hi hz0 hz1 hz2 HD E ht hrt hgt hxj
        generalize gi xs k = y at *
        go_wp2_with (at_builtin; refine wpList_append_run rfl (.tmp 34) (.tmp 39) 25 rfl _ _ _ _ rfl rfl HA.out ?_)
        go_roundw
        case rel => exact ⟨k + 1, q + 1, e2, C2, true, by omega, by go_num, rfl, rfl, HD2, HR2, K6⟩
        case measure => simp [intOf]; omega
      | false =>
        have hb := HD.out.2 rfl
        have hqk : q = k := by
          have h1 := HR.out.len
          rw [if_neg (by simp), List.length_take] at h1
          omega
        subst hqk
        by_cases h1 : gi xs q < x
        · obtain ⟨C2, e2, w5, hap, R5, K5⟩ := run_app1 (P := Try.prog) (x := gi xs q) Try.underlying25 hi hz0 hz1 (by omega) HR.out (by omega) Kr.size 25
          have HA := Lib.hid hap
          have HR2 : Hid (Ri .i64 3 w5 w.heap.size (.slice C2 (q + 1) e2) (q + 1) (if false = true then ins (xs.take (q + 1)) x else xs.take (q + 1))) := by
            rw [if_neg (by simp)] at R5 ⊢
            rw [ht.out]
            exact R5
          have HD2 : Hid ((false = true → ∃ j, j < q + 1 ∧ x ≤ gi xs j) ∧ (false = false → ∀ j, j < q + 1 → gi xs j < x)) := ⟨(fun e => by cases e), fun _ j hj => by
            rcases Nat.lt_or_ge j q with g | g
            · exact hb j g
            · obtain rfl : j = q := by omega
              exact h1⟩
          have K6 := Kr.trans K5
          have e1 : decide (x ≤ gi xs q) = false := by simpa using h1
          clear HR hap R5 K5 hi hz0 hz1 hz2 HD ht hrt h1 hb
          generalize gi xs q = y at *
          go_wp2_with (at_builtin; refine wpList_append_run rfl (.tmp 34) (.tmp 39) 25 rfl _ _ _ _ rfl rfl HA.out ?_)
          go_roundw
          case rel => exact ⟨q + 1, q + 1, e2, C2, false, by omega, by go_num, rfl, rfl, HD2, HR2, K6⟩
          case measure => simp [intOf]; omega
        · have e1 : decide (x ≤ gi xs q) = true := by simp; omega
          have HD2 : Hid ((true = true → ∃ j, j < q + 1 ∧ x ≤ gi xs j) ∧ (true = false → ∀ j, j < q + 1 → gi xs j < x)) := ⟨fun _ => ⟨q, by omega, by omega⟩, fun e => by cases e⟩
          by_cases h2 : gi xs q = x
          · obtain ⟨C2, e2, w5, hap, R5, K5⟩ := run_app1 (P := Try.prog) (x := gi xs q) Try.underlying25 hi hz0 hz1 (by omega) HR.out (by omega) Kr.size 25
            have HA := Lib.hid hap
            have HR2 : Hid (Ri .i64 3 w5 w.heap.size (.slice C2 (q + 1) e2) (q + 1) (if true = true then ins (xs.take (q + 1)) x else xs.take (q + 1))) := by
              rw [if_pos rfl, ins_in hrt.out (hasB_iff.2 ((mem_take_gi (by omega)).2 ⟨q, by omega, h2⟩)), ht.out]
              rw [if_neg (by simp)] at R5
              exact R5
            have K6 := Kr.trans K5
            have e3 : decide (x < gi xs q) = false := by simp; omega
            clear HR hap R5 K5 hi hz0 hz1 hz2 HD ht hrt h1 h2 hb
            generalize gi xs q = y at *
            go_wp2_with (at_builtin; refine wpList_append_run rfl (.tmp 34) (.tmp 39) 25 rfl _ _ _ _ rfl rfl HA.out ?_)
            go_roundw
            case rel => exact ⟨q + 1, q + 1, e2, C2, true, by omega, by go_num, rfl, rfl, HD2, HR2, K6⟩
            case measure => simp [intOf]; omega
          · obtain ⟨C1, d1, w4, hap1, R4, K4⟩ := run_app1 (P := Try.prog) (x := x) Try.underlying25 hi hz0 hz1 (by omega) HR.out (by omega) Kr.size 25
            have K45 := Kr.trans K4
            obtain ⟨C2, e2, w5, hap, R5, K5⟩ := run_app1 (P := Try.prog) (x := gi xs q) Try.underlying25 hi hz0 hz1 (by omega) R4 (by omega) K45.size 25
            have HA1 := Lib.hid hap1
            have HA := Lib.hid hap
            have HR2 : Hid (Ri .i64 3 w5 w.heap.size (.slice C2 (q + 1 + 1) e2) (q + 1 + 1) (if true = true then ins (xs.take (q + 1)) x else xs.take (q + 1))) := by
              have hrq := hrt.out
              rw [if_pos rfl, ht.out]
              rw [ht.out] at hrq
              rw [if_neg (by simp)] at R5
              rw [← ins_snoc hrq (by omega), ← ins_last (ris_snoc hrq).1 fun z hz => by obtain ⟨j, hj, rfl⟩ := (mem_take_gi (by omega)).1 hz; exact hb j hj]
              exact R5
            have K6 := K45.trans K5
            have e3 : decide (x < gi xs q) = true := by simp; omega
            have hc4 := (h.below K45).here hlt
            clear HR hap hap1 R4 R5 K4 K5 K45 hi hz0 hz1 hz2 HD ht hrt h1 h2 hb
            generalize gi xs q = y at *
            go_wp2_with (first
              | (at_builtin; refine wpList_append_run rfl (.tmp 30) (.tmp 32) 25 rfl _ _ _ _ rfl rfl HA1.out ?_)
              | (at_builtin; refine wpList_append_run rfl (.tmp 34) (.tmp 39) 25 rfl _ _ _ _ rfl rfl HA.out ?_))
            go_roundw
            case rel => exact ⟨q + 1, q + 1 + 1, e2, C2, true, by omega, by go_num, rfl, rfl, HD2, HR2, K6⟩
            case measure => simp [intOf]; omega
    · obtain rfl : k = n := by omega
      have HR2 := HR.out
      rw [List.take_of_length_le (by omega)] at HR2
      cases dn with
      | true =>
        rw [if_pos rfl] at HR2
        have I := Lib.hid (HR2.is)
        clear HR HR2 HD
        go_wp2
        go_ret
        exact ⟨_, _, _, rfl, I.out, Kr⟩
      | false =>
        rw [if_neg (by simp)] at HR2
        obtain rfl : q = k := HR2.len.symm.trans hl
        obtain ⟨i0, hi, hz0, hz1, hz2⟩ := info_parts int_info
        obtain ⟨C2, e2, w5, hap, R5, K5⟩ := run_app1 (P := Try.prog) (x := x) Try.underlying25 hi hz0 hz1 (by omega) HR2 (by omega) Kr.size 25
        rw [ins_last hr.out fun z hz => by obtain ⟨j, hj, rfl⟩ := mem_gi.1 hz; exact HD.out.2 rfl j (by omega)] at R5
        have HA := Lib.hid hap
        have I := Lib.hid (R5.is)
        have K6 := Kr.trans K5
        clear HR HR2 HD hap R5 K5 hi hz0 hz1 hz2
        go_wp2_with (at_builtin; refine wpList_append_run rfl (.tmp 43) (.tmp 45) 25 rfl _ _ _ _ rfl rfl HA.out ?_)
        go_ret
        exact ⟨_, _, _, rfl, I.out, K6⟩
end
section
variable {w : World} {lo lo2 a M : Nat} {p sh wo qu tr : Int} {A B : Option Addr} {n c m d : Nat} {zs xs : List Int} {ys : List Nat}
set_option maxHeartbeats 1000000 in
theorem rof_new (hM : Much a p M) (h : IS .i64 lo w A n c zs) (hn : n ≤ 65536) (hU : US w B m d ys) (hm : lv M ≤ m) (_hm2 : m ≤ 65536) :
    Calls Try.prog 12 #[.agg #[.int .u32 a, .int .i64 p, .slice A n c, .int .i64 sh, .int .i64 wo, .int .i64 qu, .int .i64 tr], .slice B m d] w (RetIN .i64 (os (uf zs ys) M) w) := by
  have hMm := hM.most
  have h4 : M ≤ 32 * m := by have : M ≤ 32 * lv M := by unfold lv; omega
                             omega
  clear hm
  have K := below_alloc w (.cells #[.int .u32 a, .int .i64 p, .slice A n c, .int .i64 sh, .int .i64 wo, .int .i64 qu, .int .i64 tr] 27)
  have H := Bk.new w #[.int .u32 a, .int .i64 p, .slice A n c, .int .i64 sh, .int .i64 wo, .int .i64 qu, .int .i64 tr] 27
  replace h := h.below K
  replace hU := hU.below K
  go_enter Try.func12, Try.ntmps12
  go_upto_region 1 with (fail)
  generalize w.alloc (.cells #[.int .u32 a, .int .i64 p, .slice A n c, .int .i64 sh, .int .i64 wo, .int .i64 qu, .int .i64 tr] 27) = w2 at H K h hU ⊢
  have hw2 : w.heap.size ≤ w2.heap.size := K.size
  generalize w.heap.size = g at H ⊢
  go_wp2
  go_loopw [5, 6] (fun s i wr => ∃ (k q e : Nat) (C : Option Addr), k ≤ M ∧ i = .int .i64 k ∧ s = .slice C q e ∧ Hid (Ri .i64 3 wr w2.heap.size (.slice C q e) q (os (uf zs ys) k)) ∧ Below w2.heap.size w2 wr) (fun _ i _ => M - (intOf i).toNat)
  case atStart => exact ⟨0, 0, 0, none, Nat.zero_le _, rfl, rfl, Lib.hid (Ri.nil _ _), Below.refl _ _⟩
  case round =>
    obtain ⟨k, q, e, C, hk, rfl, rfl, HR, Kr⟩ := hrel
    replace H := H.below Kr
    replace h := h.below Kr
    replace K := Below.then_ K Kr
    replace HR := HR.out
    have H_0 := H.at_ (v := .int .u32 a) 0 rfl
    have H_1 := H.at_ (v := .int .i64 p) 1 rfl
    have H_z := H.lt
    go_wp2_with fail
    refine (rmany_yes hM).mono ?_
    rintro e w3 ⟨rfl, K'⟩
    clear H_0 H_1 H_z
    replace HR := HR.below K'
    replace H := H.below K'
    replace h := h.below K'
    replace K := Below.then_ K K'
    replace Kr := Below.then_ Kr K'
    clear K'
    by_cases hlt : k < M
    · have hql := HR.len
      have hq := len_os (uf zs ys) k
      rw [hql] at hq
      obtain ⟨l, hl⟩ : ∃ l : Nat, (k : Int) / 32 = l := ⟨k / 32, by omega⟩
      obtain ⟨r, hr⟩ : ∃ r : Nat, (k : Int) % 32 = r := ⟨k % 32, by omega⟩
      have hl2 : l = k / 32 := by omega
      have hr2 : r = k % 32 := by omega
      have hr3 : r < 64 := by omega
      have huf := Lib.hid (show uf zs ys k = ((gt ys l).testBit r && !hasB zs (k : Int)) by unfold uf; rw [← hl2, ← hr2])
      obtain ⟨bb, oo, rfl, _, hc⟩ := (hU.below Kr).get (j := l) (by omega)
      have T1 := fun w => Lib.hid (rhas_any (gt ys l) r (gt_lt hU.fit l) hr3 w)
      have T2 := Lib.hid (rheld_any (a := a) (p := p) (sh := sh) (wo := wo) (qu := qu) (tr := tr) h hn (k : Int))
      clear hl2 hr2 hql
      generalize gt ys l = X at *
      have hv := huf.out
      clear huf
      cases h1 : X.testBit r with
      | false =>
        rw [h1, Bool.false_and] at hv
        rw [h1] at T1
        have HR2 := HR
        rw [← os_no hv] at HR2
        replace HR2 := Lib.hid HR2
        clear h1 hv HR T2
        go_wp2_with ((with_reducible refine ((T1 _).out).mono ?_); rintro e w' ⟨rfl, rfl⟩)
        go_roundw
        case rel => exact ⟨k + 1, q, _, C, by omega, by go_num, rfl, HR2, Kr⟩
        case measure => simp [intOf]; omega
      | true =>
        rw [h1] at T1
        have H_0 := H.at_ (v := .int .u32 a) 0 rfl
        have H_1 := H.at_ (v := .int .i64 p) 1 rfl
        have H_2 := H.at_ (v := .slice A n c) 2 rfl
        have H_3 := H.at_ (v := .int .i64 sh) 3 rfl
        have H_4 := H.at_ (v := .int .i64 wo) 4 rfl
        have H_5 := H.at_ (v := .int .i64 qu) 5 rfl
        have H_6 := H.at_ (v := .int .i64 tr) 6 rfl
        have H_z := H.lt
        cases h2 : hasB zs (k : Int) with
        | true =>
          rw [h1, h2] at hv
          rw [h2] at T2
          have HR2 := HR
          rw [← os_no (by rw [hv]; rfl)] at HR2
          clear h1 h2 hv HR
          go_wp2_with ((with_reducible refine ((T1 _).out).mono ?_); rintro e w' ⟨rfl, rfl⟩)
          refine (T2.out).mono ?_
          rintro e w4 ⟨rfl, K'⟩
          clear H_0 H_1 H_2 H_3 H_4 H_5 H_6 H_z
          replace HR2 := Lib.hid (HR2.below K')
          replace Kr := Below.then_ Kr K'
          clear K' T2 T1
          go_wp2
          go_roundw
          case rel => exact ⟨k + 1, q, _, C, by omega, by go_num, rfl, HR2, Kr⟩
          case measure => simp [intOf]; omega
        | false =>
          rw [h1, h2] at hv
          rw [h2] at T2
          have hos := Lib.hid (os_yes (f := uf zs ys) (k := k) (by rw [hv]; rfl))
          clear h1 h2 hv
          go_wp2_with ((with_reducible refine ((T1 _).out).mono ?_); rintro e w' ⟨rfl, rfl⟩)
          refine (T2.out).mono ?_
          rintro e w4 ⟨rfl, K'⟩
          clear H_0 H_1 H_2 H_3 H_4 H_5 H_6 H_z
          replace HR := HR.below K'
          replace Kr := Below.then_ Kr K'
          clear K' T2 T1
          obtain ⟨i0, hi, hz0, hz1, hz2⟩ := info_parts int_info
          obtain ⟨C2, e2, w5, hap, R5, K5⟩ := run_app1 (P := Try.prog) (x := (k : Int)) Try.underlying25 hi hz0 hz1 (by omega) HR (by omega) Kr.size 25
          have HA := Lib.hid hap
          rw [← hos.out] at R5
          have HR2 := Lib.hid R5
          have K6 := Kr.trans K5
          clear HR hap R5 K5 hi hz0 hz1 hz2 hos
          go_wp2_with (at_builtin; refine wpList_append_run rfl (.tmp 28) (.tmp 30) 25 rfl _ _ _ _ rfl rfl HA.out ?_)
          go_roundw
          case rel => exact ⟨k + 1, q + 1, e2, C2, by omega, by go_num, rfl, HR2, K6⟩
          case measure => simp [intOf]; omega
    · obtain rfl : k = M := by omega
      have I := Lib.hid ((HR.is).lower hw2)
      clear HR
      go_wp2
      go_ret
      exact ⟨_, _, _, rfl, I.out, K⟩
end
end Go.Proofs.Ytacgjaohfcoigaa

/-
  What a claim, or a drop, of an offset's bit in the cells makes of the set that they tell; other cells than leaves say nothing. No program in it, but for words.
-/
namespace Go.Proofs.Ytacgjaohfcoigaa
set_option maxRecDepth 100000
open Go.RowKit
section
variable {zs : List Int} {ys : List Nat} {M o m : Nat}
theorem uf_claim (ho : o / 32 < ys.length) (i : Nat) : uf zs (ys.set (o / 32) (clm (gt ys (o / 32)) (o % 32))) i = ((gt ys (i / 32)).testBit (i % 32) && !hasB zs (i : Int) || decide (i = o) && !hasB zs (i : Int)) := by
  unfold uf
  rw [gt_set ho]
  by_cases e : o / 32 = i / 32
  · rw [if_pos e, clm_bit _ _ (by omega), e]
    by_cases e2 : o % 32 = i % 32
    · have e3 : i = o := by omega
      rw [decide_eq_true e2, decide_eq_true e3]
      cases (gt ys (i / 32)).testBit (i % 32) <;> cases hasB zs (i : Int) <;> rfl
    · have e3 : ¬ i = o := by omega
      rw [decide_eq_false e2, decide_eq_false e3]
      cases (gt ys (i / 32)).testBit (i % 32) <;> cases hasB zs (i : Int) <;> rfl
  · have e3 : ¬ i = o := by omega
    rw [if_neg e, decide_eq_false e3]
    cases (gt ys (i / 32)).testBit (i % 32) <;> cases hasB zs (i : Int) <;> rfl
theorem os_same {f g : Nat → Bool} {k : Nat} (h : ∀ i, i < k → f i = g i) : os f k = os g k :=
  os_congr fun i => ⟨fun ⟨h1, h2⟩ => ⟨h1, by rw [← h i h1]; exact h2⟩, fun ⟨h1, h2⟩ => ⟨h1, by rw [h i h1]; exact h2⟩⟩
theorem os_claim (ho : o / 32 < ys.length) (hoM : o < M) (hh : hasB zs (o : Int) = false) : os (uf zs (ys.set (o / 32) (clm (gt ys (o / 32)) (o % 32)))) M = ins (os (uf zs ys) M) (o : Int) := by
  refine (ris_os _ _).ext ((ris_os _ _).ins _) fun z => ?_
  rw [mem_ins, mem_os, mem_os]
  constructor
  · rintro ⟨i, h1, h2, rfl⟩
    rw [uf_claim ho] at h2
    by_cases e : i = o
    · exact .inl (by rw [e])
    · refine .inr ⟨i, h1, ?_, rfl⟩
      rw [decide_eq_false e] at h2
      unfold uf
      simpa using h2
  · rintro (h | ⟨i, h1, h2, rfl⟩)
    · refine ⟨o, hoM, ?_, h⟩
      rw [uf_claim ho, hh]
      simp
    · refine ⟨i, h1, ?_, rfl⟩
      rw [uf_claim ho]
      unfold uf at h2
      rw [h2, Bool.true_or]
theorem has_os (hoM : o < M) (hh : hasB zs (o : Int) = false) : hasB (os (uf zs ys) M) (o : Int) = (gt ys (o / 32)).testBit (o % 32) := by
  have e : uf zs ys o = (gt ys (o / 32)).testBit (o % 32) := by unfold uf; rw [hh]; simp
  rw [← e, Bool.eq_iff_iff, hasB_iff, mem_os]
  constructor
  · rintro ⟨i, _, h2, h3⟩
    obtain rfl : o = i := by omega
    exact h2
  · exact fun h => ⟨o, hoM, h, rfl⟩
end
end Go.Proofs.Ytacgjaohfcoigaa

/-
  A grant alone, and a grant between whatever others do: what is left to do, and what it comes to. No program in it.
-/
namespace Go.Proofs.Ytacgjaohfcoigaa
set_option maxRecDepth 100000
set_option maxRecDepth 100000
open Go.RowKit
set_option linter.unusedVariables false
section
variable {a M ns N : Nat} {zs : List Int} {ys ys0 ys2 : List Nat} {s : Sc} {sn : List Nat}
/-- Cells with the same leaves make the same set. -/
theorem os_leaves {ys ys' : List Nat} (h : ∀ i, i < lv M → gt ys i = gt ys' i) : os (uf zs ys) M = os (uf zs ys') M := os_same fun i hi => by
  unfold uf
  rw [h (i / 32) (by unfold lv; omega)]
/-- A word, changed so often at most. -/
def Chd (n x y : Nat) : Prop := ∃ d, 1 ≤ d ∧ d ≤ n ∧ cg y = (cg x + d) % 4294967296
def Snc (n x y : Nat) : Prop := y = x ∨ Chd n x y
theorem Chd.more {n n' x y : Nat} (h : Chd n x y) (hn : n ≤ n') : Chd n' x y := by
  obtain ⟨d, h1, h2, h3⟩ := h
  exact ⟨d, h1, by omega, h3⟩
theorem Chd.one {n x y z : Nat} (h : Chd n x y) (hz : cg z = (cg y + 1) % 4294967296) : Chd (n + 1) x z := by
  obtain ⟨d, h1, h2, h3⟩ := h
  exact ⟨d + 1, by omega, by omega, by rw [hz, h3]; omega⟩
theorem Chd.ne {n x y : Nat} (hn : n < 4294967296) (hx : x < U64) (h : Chd n x y) : y ≠ x := by
  obtain ⟨d, h1, h2, h3⟩ := h
  intro e
  subst e
  have := cg_lt hx
  omega
theorem Snc.one {n x y z : Nat} (h : Snc n x y) (hz : z = y ∨ cg z = (cg y + 1) % 4294967296) : Snc (n + 1) x z := by
  rcases h with rfl | h
  · rcases hz with rfl | hz
    · exact .inl rfl
    · exact .inr ⟨1, Nat.le_refl _, by omega, hz⟩
  · rcases hz with rfl | hz
    · exact .inr (h.more (by omega))
    · exact .inr (h.one hz)
/-- What others do changes a leaf once at most, and leaves what can't be free. -/
theorem dist_leaf (hM : M ≤ 65536) (hY : YI M zs ys) (hD : DistR M zs ys ys2) : YI M zs ys2 ∧ ∀ i, i < lv M → gt ys2 i = gt ys i ∨ cg (gt ys2 i) = (cg (gt ys i) + 1) % 4294967296 := by
  have bits : ∀ o b, o < M → hasB zs (o : Int) = false → nf M zs (o / 32) b = true → b ≠ o % 32 := fun o b ho hh hn e => by
    subst e
    unfold nf at hn
    rw [show 32 * (o / 32) + o % 32 = o by omega, hh, Bool.or_false, decide_eq_true_eq] at hn
    omega
  rcases hD with ⟨o, h1, h2, h3, rfl⟩ | ⟨o, h1, h2, h3, rfl⟩ | ⟨i, W, h1, h2, rfl⟩ | rfl
  · have hi : o / 32 < lv M := by unfold lv; omega
    refine ⟨hY.leaf hi (drp_lt _ _) fun b hb hn => ?_, fun i hi' => ?_⟩
    · rw [drp_bit (gt_lt hY.fit _) (Nat.mod_lt _ (by omega)) hb, hY.top _ b hi hb hn]
      have := bits o b h1 h2 hn
      simp; omega
    · rw [gt_set (by have := hY.len; omega)]
      split
      · rename_i e; subst e; exact .inr (cg_drp (gt_lt hY.fit _) (Nat.mod_lt _ (by omega)))
      · exact .inl rfl
  · have hi : o / 32 < lv M := by unfold lv; omega
    refine ⟨hY.leaf hi (clm_lt _ _) fun b hb hn => ?_, fun i hi' => ?_⟩
    · rw [clm_bit _ _ hb, hY.top _ b hi hb hn]; rfl
    · rw [gt_set (by have := hY.len; omega)]
      split
      · rename_i e; subst e; exact .inr (cg_clm _ (Nat.mod_lt _ (by omega)))
      · exact .inl rfl
  · exact ⟨hY.sum h1 h2, fun j hj => .inl (gt_sum h1 hj)⟩
  · exact ⟨hY, fun j hj => .inl rfl⟩
/-- The first cells. -/
theorem yi_start : YI M zs (cl (nw M zs) (lv M) (tv M) (lv M)) ∧ os (uf zs (cl (nw M zs) (lv M) (tv M) (lv M))) M = [] := by
  have hg : ∀ i, i < lv M → gt (cl (nw M zs) (lv M) (tv M) (lv M)) i = nw M zs i := fun i hi => by
    rw [gt_cl (by omega)]
    unfold cel
    rw [if_pos hi, if_pos hi]
  refine ⟨⟨cl_len _ _ _ _, cl_fit (nw_lt M zs) _ _ _, fun i b hi hb hn => ?_⟩, ?_⟩
  · rw [hg i hi, nw_bit, hn, decide_eq_true hb]; rfl
  · refine (ris_os _ _).ext Ris.nil fun z => ⟨fun h => ?_, fun h => by cases h⟩
    obtain ⟨i, hi, hu, _⟩ := mem_os.1 h
    unfold uf at hu
    rw [hg (i / 32) (by unfold lv; omega), nw_bit] at hu
    unfold nf at hu
    rw [show 32 * (i / 32) + i % 32 = i by omega, decide_eq_false (by omega : ¬ M ≤ i)] at hu
    simp at hu
    rw [hu.1.2] at hu
    exact absurd hu.2 (by simp)
end
end Go.Proofs.Ytacgjaohfcoigaa

/-
  An exact grant, or a question, step by step, as functions of numbers and lists; what holds of it whatever others do between. No program in it.
-/
namespace Go.Proofs.Ytacgjaohfcoigaa
set_option maxRecDepth 100000
set_option maxRecDepth 100000
open Go.RowKit
set_option linter.unusedVariables false
def usdS (s : Sc) : Sc := ⟨s.kind, s.addr, 5, s.aad, s.used, 0, s.shard, s.sought, s.leaf, s.bit, s.word, s.full, s.at_, s.tries, s.item, s.stamp⟩
def tkS (s : Sc) (x : Nat) : Sc := ⟨s.kind, s.addr, s.err, s.aad, s.used, 3, s.shard, s.sought, s.leaf, s.bit, x, s.full, s.at_, s.tries, s.item, s.stamp⟩
def qyS (s : Sc) (b : Bool) : Sc := ⟨s.kind, s.addr, s.err, s.aad, b, 0, s.shard, s.sought, s.leaf, s.bit, s.word, s.full, s.at_, s.tries, s.item, s.stamp⟩
/-- A step that read x. -/
def xkS (x : Nat) (s : Sc) : Sc := if s.kind = 2 then (if x.testBit s.bit.toNat = true then usdS s else tkS s x) else qyS s (x.testBit s.bit.toNat)
def eS (a M : Nat) (ys : List Nat) (s : Sc) : Sc :=
  if s.phase = 8 then xkS (gt ys s.leaf.toNat) s
  else if s.phase = 3 then claimS a 0 [] (gt ys s.leaf.toNat) s
  else if s.phase = 4 ∨ s.phase = 5 then stO a M 0 [] ys s
  else s
def eB (ys : List Nat) (s : Sc) : Bool :=
  if s.phase = 8 then !(decide (s.kind = 2) && !(gt ys s.leaf.toNat).testBit s.bit.toNat) else if s.phase = 3 then decide (gt ys s.leaf.toNat = s.word) else false
/-- It begins: its kind, its address, its offset. -/
def eS0 (k x : Int) (o : Nat) : Sc := ⟨k, x, 0, 0, false, 8, 0, 0, ((o / 32 : Nat) : Int), ((o % 32 : Nat) : Int), 0, false, 0, 0, 0, 0⟩
/-- Where it may be. -/
def EP (a o : Nat) (s : Sc) : Prop :=
  (s.phase = 8 ∧ s.err = 0) ∨
  (s.phase = 3 ∧ s.kind = 2 ∧ s.err = 0 ∧ s.word.testBit (o % 32) = false) ∨
  ((s.phase = 4 ∨ s.phase = 5) ∧ s.kind = 2 ∧ s.full = true ∧ (s.at_ = 0 ∨ s.at_ = 1) ∧ s.err = 0 ∧ s.aad = ((a + o : Nat) : Int)) ∨
  (s.phase = 0 ∧ (s.kind = 5 ∧ s.err = 0 ∨ s.kind = 2 ∧ s.err = 5 ∨ s.kind = 2 ∧ s.err = 0 ∧ s.aad = ((a + o : Nat) : Int)))
structure EI (a M : Nat) (zs : List Int) (o : Nat) (s : Sc) : Prop where
  oM : o < M
  hh : hasB zs (o : Int) = false
  kd : s.kind = 2 ∨ s.kind = 5
  lf : s.leaf = ((o / 32 : Nat) : Int)
  bt : s.bit = ((o % 32 : Nat) : Int)
  it : s.item = 0
  wd : s.word < 18446744073709551616
  ph : EP a o s
section
variable {a M N o n : Nat} {zs xs : List Int} {ys ys0 ys2 : List Nat} {s : Sc}
theorem gon_no (h : s.kind ≠ 4) : gon a n xs s = ende s := by
  unfold gon fur
  rw [if_neg (by simp [h])]
theorem dn_no {s : Sc} (h : s.kind ≠ 4) (hf : s.full = true) : dn a n xs s = ende s ∨ (s.at_ = 0 ∧ dn a n xs s = root_ s) := by
  unfold dn
  split
  · exact .inl (gon_no h)
  · rename_i h
    refine .inr ⟨?_, rfl⟩
    unfold ends_ at h
    simp at h
    exact h.1
theorem claimS_no (h : s.kind ≠ 4) (x : Nat) : claimS a n xs x s = claimS a 0 [] x s := by
  unfold claimS
  rw [gon_no (show (adS s _).kind ≠ 4 from h), gon_no (show (adS s _).kind ≠ 4 from h)]
theorem dn_none {s : Sc} (h : s.kind ≠ 4) : dn a n xs s = dn a 0 [] s := by
  unfold dn
  rw [gon_no h, gon_no h]
theorem stO_no (h : s.kind ≠ 4) : stO a M n xs ys s = stO a M 0 [] ys s := by
  have e : ∀ x, dn a n xs (worded s x) = dn a 0 [] (worded s x) := fun x => dn_none (show (worded s x).kind ≠ 4 from h)
  unfold stO lk
  rw [e, e]
theorem EI.k4 (h : EI a M zs o s) : s.kind ≠ 4 := by have := h.kd; omega
theorem EI.fl (h : EI a M zs o s) : s.leaf.toNat = o / 32 := by rw [h.lf, Int.toNat_natCast]
theorem EI.fb (h : EI a M zs o s) : s.bit.toNat = o % 32 := by rw [h.bt, Int.toNat_natCast]
theorem EI.le (h : EI a M zs o s) : o / 32 < lv M := by have := h.oM; unfold lv; omega
theorem ei_start {k x : Int} (hk : k = 2 ∨ k = 5) (ho : o < M) (hh : hasB zs (o : Int) = false) : EI a M zs o (eS0 k x o) := ⟨ho, hh, hk, rfl, rfl, rfl, by show 0 < _; omega, .inl ⟨rfl, rfl⟩⟩
/-- What a step comes to, by its Phase. -/
theorem es_read (h : s.phase = 8) : eS a M ys s = xkS (gt ys s.leaf.toNat) s ∧ gC M ys s = ys := by
  constructor
  · unfold eS; rw [if_pos h]
  · unfold gC; rw [if_neg (by omega), if_neg (by omega)]
theorem es_claim (h : s.phase = 3) : eS a M ys s = claimS a 0 [] (gt ys s.leaf.toNat) s ∧ gC M ys s = claimC ys s ∧ eB ys s = decide (gt ys s.leaf.toNat = s.word) := by
  refine ⟨?_, ?_, ?_⟩
  · unfold eS; rw [if_neg (by omega), if_pos h]
  · unfold gC; rw [if_pos h]
  · unfold eB; rw [if_neg (by omega), if_pos h]
theorem es_mark (h : s.phase = 4 ∨ s.phase = 5) : eS a M ys s = stO a M 0 [] ys s ∧ gC M ys s = stC M ys s ∧ eB ys s = false := by
  refine ⟨?_, ?_, ?_⟩
  · unfold eS; rw [if_neg (by omega), if_neg (by omega), if_pos h]
  · unfold gC; rw [if_neg (by omega), if_pos h]
  · unfold eB; rw [if_neg (by omega), if_neg (by omega)]
theorem es_done (h : s.phase = 0) : eS a M ys s = s ∧ gC M ys s = ys ∧ eB ys s = false := by
  refine ⟨?_, ?_, ?_⟩
  · unfold eS; rw [if_neg (by omega), if_neg (by omega), if_neg (by omega)]
  · unfold gC; rw [if_neg (by omega), if_neg (by omega)]
  · unfold eB; rw [if_neg (by omega), if_neg (by omega)]
/-- A step of marking a full leaf: where it is then. -/
theorem mark_go (hk : s.kind ≠ 4) (hp : s.phase = 4 ∨ s.phase = 5) (hf : s.full = true) (hat : s.at_ = 0 ∨ s.at_ = 1) (hwd : s.word < 18446744073709551616) (hb : bt s < 64) (hx : gt ys (hcel M s) < 18446744073709551616) :
    ∃ x, x < 18446744073709551616 ∧ (stO a M 0 [] ys s = ende (worded s x) ∨ (s.phase = 4 ∧ stO a M 0 [] ys s = setp (worded s x)) ∨ (s.at_ = 0 ∧ stO a M 0 [] ys s = root_ (worded s x))) := by
  unfold stO
  split
  · rename_i h4
    unfold lk
    split
    · refine ⟨_, hx, ?_⟩
      rcases dn_no (a := a) (n := 0) (xs := []) (s := worded s (gt ys (hcel M s))) hk hf with e | ⟨e0, e⟩
      · exact .inl e
      · exact .inr (.inr ⟨e0, e⟩)
    · exact ⟨_, hx, .inr (.inl ⟨h4, rfl⟩)⟩
  · refine ⟨mkd s.word (bt s) s.full, mkd_lt _ hwd hb, ?_⟩
    rcases dn_no (a := a) (n := 0) (xs := []) (s := worded s (mkd s.word (bt s) s.full)) hk hf with e | ⟨e0, e⟩
    · exact .inl e
    · exact .inr (.inr ⟨e0, e⟩)
theorem stC_leaf (hM : M ≤ 65536) {i : Nat} (hi : i < lv M) : gt (stC M ys s) i = gt ys i := by
  have hcl : lv M ≤ hcel M s := by unfold hcel; split <;> omega
  unfold stC
  split
  · rfl
  · split
    · exact gt_sum hcl hi
    · rfl
theorem stC_yi (hM : M ≤ 65536) (hY : YI M zs ys) (hwd : s.word < 18446744073709551616) (hb : bt s < 64) : YI M zs (stC M ys s) := by
  have hcl : lv M ≤ hcel M s := by unfold hcel; split <;> omega
  unfold stC
  split
  · exact hY
  · split
    · exact hY.sum hcl (mkd_lt _ hwd hb)
    · exact hY
theorem ei_btl (hM : M ≤ 65536) (h : EI a M zs o s) : bt s < 64 := by
  have := h.fl
  have := h.le
  have := lv_le hM
  unfold bt
  split <;> omega
/-- A step of it. -/
theorem ei_step (hM : M ≤ 65536) (hfit : a + M ≤ 4294967296) (hE : EI a M zs o s) (hY : YI M zs ys) : EI a M zs o (eS a M ys s) ∧ YI M zs (gC M ys s) := by
  have fl := hE.fl
  have fb' := hE.fb
  have hle := hE.le
  have hbt := ei_btl hM hE
  have hk4 := hE.k4
  obtain ⟨oM, hh, kd, lf, bt', it, wd, ph⟩ := hE
  have hx64 : ∀ j, gt ys j < 18446744073709551616 := fun j => gt_lt hY.fit j
  rcases ph with ⟨p1, p2⟩ | ⟨p1, p2, p3, p4⟩ | ⟨p1, p2, p3, p4, p5, p6⟩ | ⟨p1, p2⟩
  · obtain ⟨e1, e2⟩ := es_read (a := a) (M := M) (ys := ys) p1
    rw [e1, e2]
    refine ⟨?_, hY⟩
    unfold xkS
    split
    · rename_i hk
      split
      · exact ⟨oM, hh, kd, lf, bt', it, wd, .inr (.inr (.inr ⟨rfl, .inr (.inl ⟨hk, rfl⟩)⟩))⟩
      · rename_i hb
        refine ⟨oM, hh, kd, lf, bt', it, hx64 _, .inr (.inl ⟨rfl, hk, p2, ?_⟩)⟩
        rw [fb'] at hb
        exact Bool.eq_false_iff.2 hb
    · rename_i hk
      exact ⟨oM, hh, kd, lf, bt', it, wd, .inr (.inr (.inr ⟨rfl, .inl ⟨by show s.kind = 5; omega, p2⟩⟩))⟩
  · obtain ⟨e1, e2, _⟩ := es_claim (a := a) (M := M) (ys := ys) p1
    rw [e1, e2, fl]
    have had : (adr a s.leaf.toNat s.bit.toNat : Int) = ((a + o : Nat) : Int) := by
      rw [fl, fb']; unfold adr; rw [Nat.mod_eq_of_lt (by omega)]; omega
    constructor
    · unfold claimS
      split
      · split
        · exact ⟨oM, hh, kd, lf, bt', it, by show 0 < _; omega, .inr (.inr (.inl ⟨.inl rfl, p2, rfl, .inl rfl, p3, had⟩))⟩
        · rw [gon_no (show (adS s _).kind ≠ 4 from hk4)]
          exact ⟨oM, hh, kd, lf, bt', it, by show 0 < _; omega, .inr (.inr (.inr ⟨rfl, .inr (.inr ⟨p2, p3, had⟩)⟩))⟩
      · refine ⟨oM, hh, kd, lf, bt', it, by show 0 < _; omega, .inl ⟨?_, p3⟩⟩
        unfold againS; exact if_neg (by omega)
    · unfold claimC
      rw [fl, fb']
      split
      · rename_i hx
        refine hY.leaf hle (clm_lt _ _) fun k hk hn => ?_
        rw [clm_bit _ _ hk, ← hx, hY.top _ k hle hk hn]; rfl
      · exact hY
  · obtain ⟨e1, e2, _⟩ := es_mark (a := a) (M := M) (ys := ys) p1
    rw [e1, e2]
    refine ⟨?_, stC_yi hM hY wd hbt⟩
    obtain ⟨x, hx, e | ⟨_, e⟩ | ⟨_, e⟩⟩ := mark_go (a := a) (M := M) (ys := ys) hk4 p1 p3 p4 wd hbt (hx64 _)
    · rw [e]; exact ⟨oM, hh, kd, lf, bt', it, by show 0 < _; omega, .inr (.inr (.inr ⟨rfl, .inr (.inr ⟨p2, p5, p6⟩)⟩))⟩
    · rw [e]; exact ⟨oM, hh, kd, lf, bt', it, hx, .inr (.inr (.inl ⟨.inr rfl, p2, p3, p4, p5, p6⟩))⟩
    · rw [e]; exact ⟨oM, hh, kd, lf, bt', it, hx, .inr (.inr (.inl ⟨.inl rfl, p2, p3, .inr rfl, p5, p6⟩))⟩
  · obtain ⟨e1, e2, _⟩ := es_done (a := a) (M := M) (ys := ys) p1
    rw [e1, e2]
    exact ⟨⟨oM, hh, kd, lf, bt', it, wd, .inr (.inr (.inr ⟨p1, p2⟩))⟩, hY⟩
/-- What it tells at its effect; without one nothing is otherwise. -/
theorem e_eff (hM : M ≤ 65536) (hfit : a + M ≤ 4294967296) (hE : EI a M zs o s) (hY : YI M zs ys) :
    (eB ys s = false → os (uf zs (gC M ys s)) M = os (uf zs ys) M ∧ ((eS a M ys s).phase = 0 ↔ s.phase = 0 ∨ s.phase = 4 ∨ s.phase = 5) → True) ∧
    (eB ys s = false → os (uf zs (gC M ys s)) M = os (uf zs ys) M) ∧
    (eB ys s = true → s.kind = 5 → os (uf zs (gC M ys s)) M = os (uf zs ys) M ∧ (eS a M ys s).used = hasB (os (uf zs ys) M) (o : Int)) ∧
    (eB ys s = true → s.kind = 2 → ((eS a M ys s).err = 5 ∧ os (uf zs (gC M ys s)) M = os (uf zs ys) M ∧ hasB (os (uf zs ys) M) (o : Int) = true) ∨
      ((eS a M ys s).err = 0 ∧ (eS a M ys s).aad = ((a + o : Nat) : Int) ∧ hasB (os (uf zs ys) M) (o : Int) = false ∧ os (uf zs (gC M ys s)) M = ins (os (uf zs ys) M) (o : Int))) := by
  have fl := hE.fl
  have fb' := hE.fb
  have hle := hE.le
  have hk4 := hE.k4
  have hus := has_os (zs := zs) (ys := ys) hE.oM hE.hh
  obtain ⟨oM, hh, kd, lf, bt', it, wd, ph⟩ := hE
  refine ⟨fun _ _ => trivial, ?_⟩
  rcases ph with ⟨p1, p2⟩ | ⟨p1, p2, p3, p4⟩ | ⟨p1, p2, p3, p4, p5, p6⟩ | ⟨p1, p2⟩
  · obtain ⟨e1, e2⟩ := es_read (a := a) (M := M) (ys := ys) p1
    rw [e1, e2, fl]
    refine ⟨fun _ => rfl, fun _ hk => ⟨rfl, ?_⟩, fun hb hk => .inl ?_⟩
    · unfold xkS; rw [if_neg (by omega), hus, fb']; rfl
    · unfold eB at hb
      rw [if_pos p1, fl, fb', hk] at hb
      have hbit : (gt ys (o / 32)).testBit (o % 32) = true := by simpa using hb
      refine ⟨?_, rfl, hus.trans hbit⟩
      unfold xkS; rw [if_pos hk, fb', if_pos hbit]; rfl
  · obtain ⟨e1, e2, e3⟩ := es_claim (a := a) (M := M) (ys := ys) p1
    rw [e1, e2, e3, fl]
    refine ⟨fun hb => ?_, fun _ hk => absurd hk (by omega), fun hb hk => .inr ?_⟩
    · unfold claimC; rw [fl, if_neg (of_decide_eq_false hb)]
    · have hx := of_decide_eq_true hb
      have had : (adr a s.leaf.toNat s.bit.toNat : Int) = ((a + o : Nat) : Int) := by
        rw [fl, fb']; unfold adr; rw [Nat.mod_eq_of_lt (by omega)]; omega
      have hcc : claimC ys s = ys.set (o / 32) (clm (gt ys (o / 32)) (o % 32)) := by unfold claimC; rw [fl, fb', if_pos hx, hx]
      have hl : o / 32 < ys.length := by have := hY.len; omega
      refine ⟨?_, ?_, by rw [hus, hx]; exact p4, by rw [hcc, os_claim hl oM hh]⟩
      · unfold claimS; rw [if_pos hx]
        split
        · exact p3
        · rw [gon_no (show (adS s _).kind ≠ 4 from hk4)]; exact p3
      · unfold claimS; rw [if_pos hx]
        split
        · exact had
        · rw [gon_no (show (adS s _).kind ≠ 4 from hk4)]; exact had
  · obtain ⟨e1, e2, e3⟩ := es_mark (a := a) (M := M) (ys := ys) p1
    rw [e2, e3]
    exact ⟨fun _ => os_leaves fun i hi => stC_leaf hM hi, fun h => (by cases h), fun h => (by cases h)⟩
  · obtain ⟨e1, e2, e3⟩ := es_done (a := a) (M := M) (ys := ys) p1
    rw [e2, e3]
    exact ⟨fun _ => rfl, fun h => (by cases h), fun h => (by cases h)⟩
/-- How often it took effect. -/
def EO (s : Sc) (e : Nat) : Prop := (e = 0 ∧ (s.phase = 8 ∨ s.phase = 3)) ∨ (e = 1 ∧ (s.phase = 4 ∨ s.phase = 5 ∨ s.phase = 0))
theorem eo_step (hM : M ≤ 65536) (hE : EI a M zs o s) (hY : YI M zs ys) {e : Nat} (hO : EO s e) (hp0 : s.phase ≠ 0) : EO (eS a M ys s) (e + if eB ys s = true then 1 else 0) := by
  have fl := hE.fl
  have hbt := ei_btl hM hE
  have hk4 := hE.k4
  obtain ⟨oM, hh, kd, lf, bt', it, wd, ph⟩ := hE
  rcases ph with ⟨p1, p2⟩ | ⟨p1, p2, p3, p4⟩ | ⟨p1, p2, p3, p4, p5, p6⟩ | ⟨p1, p2⟩
  · obtain rfl : e = 0 := by rcases hO with h | h <;> omega
    rw [(es_read (a := a) (M := M) (ys := ys) p1).1]
    unfold xkS eB
    rw [if_pos p1]
    by_cases hk : s.kind = 2
    · rw [if_pos hk, hk]
      cases hb : (gt ys s.leaf.toNat).testBit s.bit.toNat with
      | true => rw [if_pos rfl]; exact .inr ⟨rfl, .inr (.inr rfl)⟩
      | false => rw [if_neg Bool.false_ne_true]; exact .inl ⟨rfl, .inr rfl⟩
    · rw [if_neg hk, if_pos (by simp [hk])]; exact .inr ⟨rfl, .inr (.inr rfl)⟩
  · obtain rfl : e = 0 := by rcases hO with h | h <;> omega
    obtain ⟨e1, _, e3⟩ := es_claim (a := a) (M := M) (ys := ys) p1
    rw [e1, e3]
    unfold claimS
    by_cases hx : gt ys s.leaf.toNat = s.word
    · rw [if_pos hx, if_pos (decide_eq_true hx)]
      split
      · exact .inr ⟨rfl, .inl rfl⟩
      · rw [gon_no (show (adS s _).kind ≠ 4 from hk4)]; exact .inr ⟨rfl, .inr (.inr rfl)⟩
    · rw [if_neg hx, if_neg (by simp [hx])]
      refine .inl ⟨rfl, .inl ?_⟩
      unfold againS; exact if_neg (by omega)
  · obtain rfl : e = 1 := by rcases hO with h | h <;> omega
    obtain ⟨e1, _, e3⟩ := es_mark (a := a) (M := M) (ys := ys) p1
    rw [e1, e3]
    obtain ⟨x, hx, q | ⟨_, q⟩ | ⟨_, q⟩⟩ := mark_go (a := a) (M := M) (ys := ys) hk4 p1 p3 p4 wd hbt (gt_lt hY.fit _)
    · rw [q]; exact .inr ⟨rfl, .inr (.inr rfl)⟩
    · rw [q]; exact .inr ⟨rfl, .inr (.inl rfl)⟩
    · rw [q]; exact .inr ⟨rfl, .inl rfl⟩
  · exact absurd p1 hp0
end
end Go.Proofs.Ytacgjaohfcoigaa

/-
  An exact grant alone; two of one address: how many steps they take at most, what they come to. No program in it.
-/
namespace Go.Proofs.Ytacgjaohfcoigaa
set_option maxRecDepth 100000
set_option maxRecDepth 100000
open Go.RowKit
set_option linter.unusedVariables false
/-- So many steps it takes at most, where nobody else does anything. -/
def mux (ys : List Nat) (s : Sc) : Nat :=
  if s.phase = 0 then 0 else if s.phase = 5 then (if s.at_ = 0 then 3 else 1) else if s.phase = 4 then (if s.at_ = 0 then 4 else 2)
  else if s.phase = 3 then (if gt ys s.leaf.toNat = s.word then 5 else 7) else 6
section
variable {a M N o : Nat} {zs : List Int} {ys ys0 ys2 : List Nat} {s s1 s2 : Sc}
theorem mux_most : mux ys s ≤ 7 := by unfold mux; repeat' split
                                      all_goals omega
theorem mux_done (h : s.phase = 0) : mux ys s = 0 := by unfold mux; rw [if_pos h]
theorem mux_zero (h : mux ys s = 0) : s.phase = 0 := by
  unfold mux at h
  split at h
  · assumption
  · repeat' split at h
    all_goals omega
theorem mux_ende : mux ys (ende s) = 0 := mux_done rfl
theorem mux_5 (h : s.phase = 5) : mux ys s = if s.at_ = 0 then 3 else 1 := by unfold mux; rw [if_neg (by omega), if_pos h]
theorem mux_4 (h : s.phase = 4) : mux ys s = if s.at_ = 0 then 4 else 2 := by unfold mux; rw [if_neg (by omega), if_neg (by omega), if_pos h]
theorem mux_3 (h : s.phase = 3) : mux ys s = if gt ys s.leaf.toNat = s.word then 5 else 7 := by unfold mux; rw [if_neg (by omega), if_neg (by omega), if_neg (by omega), if_pos h]
theorem mux_8 (h : s.phase = 8) : mux ys s = 6 := by unfold mux; rw [if_neg (by omega), if_neg (by omega), if_neg (by omega), if_neg (by omega)]
theorem mux_step (hM : M ≤ 65536) (hE : EI a M zs o s) (hY : YI M zs ys) (hp0 : s.phase ≠ 0) : mux (gC M ys s) (eS a M ys s) + 1 ≤ mux ys s := by
  have fl := hE.fl
  have fb' := hE.fb
  have hbt := ei_btl hM hE
  have hk4 := hE.k4
  obtain ⟨oM, hh, kd, lf, bt', it, wd, ph⟩ := hE
  rcases ph with ⟨p1, p2⟩ | ⟨p1, p2, p3, p4⟩ | ⟨p1, p2, p3, p4, p5, p6⟩ | ⟨p1, p2⟩
  · obtain ⟨e1, e2⟩ := es_read (a := a) (M := M) (ys := ys) p1
    rw [e1, e2]
    have h6 : mux ys s = 6 := by unfold mux; rw [if_neg (by omega), if_neg (by omega), if_neg (by omega), if_neg (by omega)]
    rw [h6]
    unfold xkS
    split
    · split
      · rw [mux_done (s := usdS s) rfl]; omega
      · have : mux ys (tkS s (gt ys s.leaf.toNat)) = 5 := (mux_3 (s := tkS s (gt ys s.leaf.toNat)) rfl).trans (if_pos rfl)
        omega
    · rw [mux_done (s := qyS s _) rfl]; omega
  · obtain ⟨e1, e2, _⟩ := es_claim (a := a) (M := M) (ys := ys) p1
    rw [e1, e2]
    unfold claimS
    by_cases hx : gt ys s.leaf.toNat = s.word
    · have h5 : mux ys s = 5 := by unfold mux; rw [if_neg (by omega), if_neg (by omega), if_neg (by omega), if_pos p1, if_pos hx]
      rw [h5, if_pos hx]
      split
      · have : ∀ z ys', mux ys' (fullS z) = 4 := fun z ys' => (mux_4 (s := fullS z) rfl).trans (if_pos rfl)
        rw [this]; omega
      · rw [gon_no (show (adS s _).kind ≠ 4 from hk4), mux_ende]; omega
    · have h7 : mux ys s = 7 := by unfold mux; rw [if_neg (by omega), if_neg (by omega), if_neg (by omega), if_pos p1, if_neg hx]
      rw [h7, if_neg hx]
      have e8 : (againS s).phase = 8 := by unfold againS; exact if_neg (by omega)
      unfold mux
      rw [if_neg (by omega), if_neg (by omega), if_neg (by omega), if_neg (by omega)]
      omega
  · obtain ⟨e1, e2, _⟩ := es_mark (a := a) (M := M) (ys := ys) p1
    rw [e1, e2]
    obtain ⟨x, hx, q | ⟨q4, q⟩ | ⟨q0, q⟩⟩ := mark_go (a := a) (M := M) (ys := ys) hk4 p1 p3 p4 wd hbt (gt_lt hY.fit _)
    · rw [q, mux_ende]
      have : ¬ mux ys s = 0 := fun h => hp0 (mux_zero h)
      omega
    · have h5 : ∀ ys', mux ys' (setp (worded s x)) = if s.at_ = 0 then 3 else 1 := fun ys' => mux_5 (s := setp (worded s x)) rfl
      rw [q, h5, mux_4 q4]
      split <;> omega
    · have h4 : ∀ ys', mux ys' (root_ (worded s x)) = 2 := fun ys' => (mux_4 (s := root_ (worded s x)) rfl).trans (if_neg (by show ¬ (1 : Int) = 0; omega))
      rw [q, h4]
      rcases p1 with h | h
      · rw [mux_4 h, if_pos q0]; omega
      · rw [mux_5 h, if_pos q0]; omega
  · exact absurd p1 hp0
/-- It was granted; it wasn't, so far. -/
def Gtd (s : Sc) : Prop := (s.phase = 4 ∨ s.phase = 5 ∨ s.phase = 0) ∧ s.err = 0
def Not (s : Sc) : Prop := s.phase = 8 ∨ s.phase = 3 ∨ (s.phase = 0 ∧ s.err = 5)
def usd (o : Nat) (ys : List Nat) : Bool := (gt ys (o / 32)).testBit (o % 32)
/-- A step of an exact grant where its address is free, or used. -/
theorem gtd_free (hM : M ≤ 65536) (hE : EI a M zs o s) (hY : YI M zs ys) (hk : s.kind = 2) (hu : usd o ys = false) (hs : s.phase = 8 ∨ s.phase = 3) :
    (usd o (gC M ys s) = false ∧ ((eS a M ys s).phase = 8 ∨ (eS a M ys s).phase = 3) ∧ os (uf zs (gC M ys s)) M = os (uf zs ys) M) ∨ (usd o (gC M ys s) = true ∧ Gtd (eS a M ys s) ∧ os (uf zs (gC M ys s)) M = ins (os (uf zs ys) M) (o : Int)) := by
  have fl := hE.fl
  have fb' := hE.fb
  have hle := hE.le
  have hk4 := hE.k4
  obtain ⟨oM, hh, kd, lf, bt', it, wd, ph⟩ := hE
  have er : s.err = 0 := by rcases ph with ⟨_, h⟩ | ⟨_, _, h, _⟩ | ⟨h, _⟩ | ⟨h, _⟩ <;> omega
  rcases hs with p1 | p1
  · obtain ⟨e1, e2⟩ := es_read (a := a) (M := M) (ys := ys) p1
    rw [e1, e2]
    refine .inl ⟨hu, ?_, rfl⟩
    unfold xkS
    rw [if_pos hk, fl, fb', if_neg (by unfold usd at hu; rw [hu]; exact Bool.false_ne_true)]
    exact .inr rfl
  · obtain ⟨e1, e2, _⟩ := es_claim (a := a) (M := M) (ys := ys) p1
    rw [e1, e2]
    unfold claimS claimC
    rw [fl, fb']
    by_cases hx : gt ys (o / 32) = s.word
    · rw [if_pos hx, if_pos hx]
      have hl : o / 32 < ys.length := by have := hY.len; omega
      refine .inr ⟨?_, ?_, ?_⟩
      · unfold usd; rw [gt_set hl, if_pos rfl, clm_bit _ _ (Nat.mod_lt _ (by omega))]; simp
      · split
        · exact ⟨.inl rfl, er⟩
        · rw [gon_no (show (adS s _).kind ≠ 4 from hk4)]; exact ⟨.inr (.inr rfl), er⟩
      · rw [← hx]; exact os_claim hl oM hh
    · rw [if_neg hx, if_neg hx]
      refine .inl ⟨hu, .inl ?_, rfl⟩
      unfold againS; exact if_neg (by omega)
theorem gtd_used (hM : M ≤ 65536) (hE : EI a M zs o s) (hY : YI M zs ys) (hk : s.kind = 2) (hu : usd o ys = true) :
    usd o (gC M ys s) = true ∧ os (uf zs (gC M ys s)) M = os (uf zs ys) M ∧ (Gtd s → Gtd (eS a M ys s)) ∧ (Not s → Not (eS a M ys s)) := by
  have fl := hE.fl
  have fb' := hE.fb
  have hle := hE.le
  have hbt := ei_btl hM hE
  have hk4 := hE.k4
  obtain ⟨oM, hh, kd, lf, bt', it, wd, ph⟩ := hE
  unfold usd at hu
  rcases ph with ⟨p1, p2⟩ | ⟨p1, p2, p3, p4⟩ | ⟨p1, p2, p3, p4, p5, p6⟩ | ⟨p1, p2⟩
  · obtain ⟨e1, e2⟩ := es_read (a := a) (M := M) (ys := ys) p1
    rw [e1, e2]
    refine ⟨hu, rfl, fun h => (by rcases h.1 with h | h | h <;> omega), fun _ => ?_⟩
    unfold xkS
    rw [if_pos hk, fl, fb', if_pos hu]
    exact .inr (.inr ⟨rfl, rfl⟩)
  · obtain ⟨e1, e2, _⟩ := es_claim (a := a) (M := M) (ys := ys) p1
    have hx : ¬ gt ys (o / 32) = s.word := fun h => by rw [h, p4] at hu; cases hu
    have e3 : claimC ys s = ys := by unfold claimC; rw [fl, if_neg hx]
    rw [e1, e2, e3]
    refine ⟨hu, rfl, fun h => (by rcases h.1 with h | h | h <;> omega), fun _ => ?_⟩
    unfold claimS
    rw [fl, if_neg hx]
    refine .inl ?_
    unfold againS; exact if_neg (by omega)
  · obtain ⟨e1, e2, _⟩ := es_mark (a := a) (M := M) (ys := ys) p1
    rw [e1, e2]
    have hlf := fun i (hi : i < lv M) => stC_leaf (s := s) (ys := ys) hM hi
    refine ⟨by unfold usd; rw [hlf _ hle]; exact hu, os_leaves hlf, fun _ => ?_, fun h => (by rcases h with h | h | h <;> omega)⟩
    obtain ⟨x, hx, q | ⟨q4, q⟩ | ⟨q0, q⟩⟩ := mark_go (a := a) (M := M) (ys := ys) hk4 p1 p3 p4 wd hbt (gt_lt hY.fit _)
    · rw [q]; exact ⟨.inr (.inr rfl), p5⟩
    · rw [q]; exact ⟨.inr (.inl rfl), p5⟩
    · rw [q]; exact ⟨.inl rfl, p5⟩
  · obtain ⟨e1, e2, _⟩ := es_done (a := a) (M := M) (ys := ys) p1
    rw [e1, e2]
    exact ⟨hu, rfl, id, id⟩
/-- What stays of an operation. -/
theorem es_kind (hM : M ≤ 65536) (hE : EI a M zs o s) (hY : YI M zs ys) : (eS a M ys s).kind = s.kind := by
  have hbt := ei_btl hM hE
  have hk4 := hE.k4
  obtain ⟨oM, hh, kd, lf, bt', it, wd, ph⟩ := hE
  rcases ph with ⟨p1, p2⟩ | ⟨p1, p2, p3, p4⟩ | ⟨p1, p2, p3, p4, p5, p6⟩ | ⟨p1, p2⟩
  · rw [(es_read (a := a) (M := M) (ys := ys) p1).1]; unfold xkS; repeat' split
    all_goals rfl
  · rw [(es_claim (a := a) (M := M) (ys := ys) p1).1]; unfold claimS
    rw [gon_no (show (adS s _).kind ≠ 4 from hk4)]
    repeat' split
    all_goals rfl
  · rw [(es_mark (a := a) (M := M) (ys := ys) p1).1]
    obtain ⟨x, hx, q | ⟨q4, q⟩ | ⟨q0, q⟩⟩ := mark_go (a := a) (M := M) (ys := ys) hk4 p1 p3 p4 wd hbt (gt_lt hY.fit _)
    all_goals (rw [q]; rfl)
  · rw [(es_done (a := a) (M := M) (ys := ys) p1).1]
/-- Two exact grants of one address. -/
structure TwoI (a M : Nat) (zs : List Int) (o : Nat) (ys : List Nat) (s1 s2 : Sc) : Prop where
  e1 : EI a M zs o s1
  e2 : EI a M zs o s2
  k1 : s1.kind = 2
  k2 : s2.kind = 2
  yi : YI M zs ys
  st : (usd o ys = false ∧ os (uf zs ys) M = [] ∧ (s1.phase = 8 ∨ s1.phase = 3) ∧ (s2.phase = 8 ∨ s2.phase = 3)) ∨ (usd o ys = true ∧ os (uf zs ys) M = [(o : Int)] ∧ (Gtd s1 ∧ Not s2 ∨ Not s1 ∧ Gtd s2))
theorem TwoI.swap (h : TwoI a M zs o ys s1 s2) : TwoI a M zs o ys s2 s1 := ⟨h.e2, h.e1, h.k2, h.k1, h.yi, by
  rcases h.st with ⟨q1, q2, q3, q4⟩ | ⟨q1, q2, q3⟩
  · exact .inl ⟨q1, q2, q4, q3⟩
  · exact .inr ⟨q1, q2, by rcases q3 with ⟨g, n⟩ | ⟨n, g⟩; exact .inr ⟨n, g⟩; exact .inl ⟨g, n⟩⟩⟩
theorem two_step (hM : M ≤ 65536) (hfit : a + M ≤ 4294967296) (h : TwoI a M zs o ys s1 s2) : TwoI a M zs o (gC M ys s1) (eS a M ys s1) s2 := by
  obtain ⟨i1, i2⟩ := ei_step hM hfit h.e1 h.yi
  refine ⟨i1, h.e2, (es_kind hM h.e1 h.yi).trans h.k1, h.k2, i2, ?_⟩
  rcases h.st with ⟨q1, q2, q3, q4⟩ | ⟨q1, q2, q3⟩
  · rcases gtd_free hM h.e1 h.yi h.k1 q1 q3 with ⟨g1, g2, g3⟩ | ⟨g1, g2, g3⟩
    · exact .inl ⟨g1, g3.trans q2, g2, q4⟩
    · refine .inr ⟨g1, ?_, .inl ⟨g2, q4.elim .inl (fun h => .inr (.inl h))⟩⟩
      rw [g3, q2]; rfl
  · obtain ⟨g1, g2, g3, g4⟩ := gtd_used hM h.e1 h.yi h.k1 q1
    refine .inr ⟨g1, g2.trans q2, ?_⟩
    rcases q3 with ⟨g, n⟩ | ⟨n, g⟩
    · exact .inl ⟨g3 g, n⟩
    · exact .inr ⟨g4 n, g⟩
theorem two_end (h : TwoI a M zs o ys s1 s2) (h1 : s1.phase = 0) (h2 : s2.phase = 0) : os (uf zs ys) M = [(o : Int)] ∧ (s1.err = 0 ∧ s2.err = 5 ∨ s1.err = 5 ∧ s2.err = 0) := by
  rcases h.st with ⟨q1, q2, q3, q4⟩ | ⟨q1, q2, q3⟩
  · omega
  · refine ⟨q2, ?_⟩
    rcases q3 with ⟨g, n⟩ | ⟨n, g⟩
    · rcases n with n | n | n
      · omega
      · omega
      · exact .inl ⟨g.2, n.2⟩
    · rcases n with n | n | n
      · omega
      · omega
      · exact .inr ⟨n.2, g.2⟩
/-- An exact grant alone: u: was it used when it began. -/
def EA (o : Nat) (ys : List Nat) (s : Sc) (u : Bool) : Prop :=
  (u = false ∧ usd o ys = false ∧ (s.phase = 8 ∨ s.phase = 3)) ∨ (u = false ∧ usd o ys = true ∧ Gtd s) ∨ (u = true ∧ usd o ys = true ∧ Not s)
theorem ea_step (hM : M ≤ 65536) (hE : EI a M zs o s) (hY : YI M zs ys) (hk : s.kind = 2) {u : Bool} (hA : EA o ys s u) : EA o (gC M ys s) (eS a M ys s) u := by
  rcases hA with ⟨q1, q2, q3⟩ | ⟨q1, q2, q3⟩ | ⟨q1, q2, q3⟩
  · rcases gtd_free hM hE hY hk q2 q3 with ⟨g1, g2, _⟩ | ⟨g1, g2, _⟩
    · exact .inl ⟨q1, g1, g2⟩
    · exact .inr (.inl ⟨q1, g1, g2⟩)
  · obtain ⟨g1, _, g3, _⟩ := gtd_used hM hE hY hk q2
    exact .inr (.inl ⟨q1, g1, g3 q3⟩)
  · obtain ⟨g1, _, _, g4⟩ := gtd_used hM hE hY hk q2
    exact .inr (.inr ⟨q1, g1, g4 q3⟩)
theorem ea_end (hE : EI a M zs o s) {u : Bool} (hk : s.kind = 2) (hA : EA o ys s u) (hp : s.phase = 0) : usd o ys = true ∧ ((u = false ∧ s.err = 0 ∧ s.aad = ((a + o : Nat) : Int)) ∨ (u = true ∧ s.err = 5)) := by
  rcases hA with ⟨q1, q2, q3⟩ | ⟨q1, q2, q3⟩ | ⟨q1, q2, q3⟩
  · omega
  · refine ⟨q2, .inl ⟨q1, q3.2, ?_⟩⟩
    have := q3.2
    rcases hE.ph with ⟨h, _⟩ | ⟨h, _⟩ | ⟨h, _⟩ | ⟨_, h | h | h⟩
    · omega
    · omega
    · omega
    · omega
    · omega
    · exact h.2.2
  · refine ⟨q2, .inr ⟨q1, ?_⟩⟩
    rcases q3 with h | h | h
    · omega
    · omega
    · exact h.2
end
end Go.Proofs.Ytacgjaohfcoigaa

/-
  Requests as numbers: what they name, and which error they have. No program stands here but for what a test of a configuration answers.
-/
namespace Go.Proofs.Ytacgjaohfcoigaa
set_option maxRecDepth 100000
open Go.RowKit
/-- What a request of kind k names. -/
def nmI (k x : Int) (ys : List Int) : List Int := if k = 2 ∨ k = 3 ∨ k = 5 then [x] else if k = 4 then ys else []
/-- The error of the first name that has one; met: those ahead of it. -/
def chk (a M : Nat) (zs : List Int) : List Int → List Int → Int
  | _, [] => 0
  | met, y :: r => if fiE a M y.toNat zs = 0 then (if y ∈ met then 8 else chk a M zs (y :: met) r) else fiE a M y.toNat zs
/-- The error of a request. -/
def askE (a M : Nat) (zs : List Int) (k x : Int) (ys : List Int) : Int :=
  if 1 ≤ k ∧ k ≤ 7 then (if k = 4 ∧ ys.length = 0 then 7 else if k = 4 ∧ 64 < ys.length then 1 else chk a M zs [] (nmI k x ys)) else 1
section
variable {a M : Nat} {zs : List Int}
theorem nmI_one {k x : Int} {ys : List Int} (h : k = 2 ∨ k = 3 ∨ k = 5) : nmI k x ys = [x] := by unfold nmI; rw [if_pos h]
theorem nmI_all {x : Int} {ys : List Int} : nmI 4 x ys = ys := by unfold nmI; rw [if_neg (by omega), if_pos rfl]
theorem nmI_none {k x : Int} {ys : List Int} (h : ¬ (k = 2 ∨ k = 3 ∨ k = 5)) (h4 : k ≠ 4) : nmI k x ys = [] := by unfold nmI; rw [if_neg h, if_neg h4]
theorem nmI_len {k x : Int} {ys : List Int} {n : Nat} (hn : ys.length ≤ n) (h1 : 1 ≤ n) : (nmI k x ys).length ≤ n := by
  unfold nmI; split
  · simpa using h1
  · split
    · exact hn
    · simp
/-- One step of it. -/
theorem chk_drop {met ys : List Int} {k : Nat} (h : k < ys.length) : chk a M zs met (ys.drop k) = if fiE a M (gi ys k).toNat zs = 0 then (if gi ys k ∈ met then 8 else chk a M zs (gi ys k :: met) (ys.drop (k + 1))) else fiE a M (gi ys k).toNat zs := by
  rw [drop_gi h]; rfl
theorem take_rev {ys : List Int} {k : Nat} (h : k < ys.length) : (ys.take (k + 1)).reverse = gi ys k :: (ys.take k).reverse := by
  rw [List.take_succ_eq_append_getElem h, List.reverse_append, gi_at h]; rfl
theorem mem_take_rev {ys : List Int} {k : Nat} (hk : k ≤ ys.length) {x : Int} : x ∈ (ys.take k).reverse ↔ ∃ j, j < k ∧ gi ys j = x := by
  rw [List.mem_reverse, List.mem_iff_getElem]
  constructor
  · rintro ⟨j, hj, e⟩
    have hj' : j < k := by rw [List.length_take] at hj; omega
    exact ⟨j, hj', by rw [gi_at (by omega), ← e, List.getElem_take]⟩
  · rintro ⟨j, hj, e⟩
    exact ⟨j, by rw [List.length_take]; omega, by rw [List.getElem_take, ← e, gi_at (by omega)]⟩
/-- The state of the loop: what is left is told as the whole would be. -/
def Left_ (a M : Nat) (zs ys : List Int) (k : Nat) : Prop := chk a M zs [] ys = chk a M zs (ys.take k).reverse (ys.drop k)
theorem Left_.start (a M : Nat) (zs ys : List Int) : Left_ a M zs ys 0 := by unfold Left_; simp
theorem Left_.bad {ys : List Int} {k : Nat} (h : Left_ a M zs ys k) (hk : k < ys.length) {e : Int} (he : fiE a M (gi ys k).toNat zs = e) (hn : e ≠ 0) : chk a M zs [] ys = e := by
  rw [h, chk_drop hk, if_neg (by omega), he]
theorem Left_.twice {ys : List Int} {k : Nat} (h : Left_ a M zs ys k) (hk : k < ys.length) (he : fiE a M (gi ys k).toNat zs = 0) {j : Nat} (hj : j < k) (e : gi ys j = gi ys k) : chk a M zs [] ys = 8 := by
  rw [h, chk_drop hk, if_pos he, if_pos ((mem_take_rev (by omega)).2 ⟨j, hj, e⟩)]
theorem Left_.step {ys : List Int} {k : Nat} (h : Left_ a M zs ys k) (hk : k < ys.length) (he : fiE a M (gi ys k).toNat zs = 0) (hj : ∀ j, j < k → gi ys j ≠ gi ys k) : Left_ a M zs ys (k + 1) := by
  unfold Left_
  rw [h, chk_drop hk, if_pos he, if_neg (fun g => by obtain ⟨j, hj', e⟩ := (mem_take_rev (by omega)).1 g; exact hj j hj' e), take_rev hk]
theorem Left_.end_ {ys : List Int} {k : Nat} (h : Left_ a M zs ys k) (hk : ys.length ≤ k) : chk a M zs [] ys = 0 := by
  rw [h, List.drop_eq_nil_of_le hk]; rfl
theorem chk_one (x : Int) : chk a M zs [] [x] = fiE a M x.toNat zs := by
  unfold chk
  by_cases h : fiE a M x.toNat zs = 0
  · rw [if_pos h, if_neg (by simp), h]; rfl
  · rw [if_neg h]
theorem askE_one {k x : Int} {ys : List Int} (h : k = 2 ∨ k = 3 ∨ k = 5) : askE a M zs k x ys = fiE a M x.toNat zs := by
  unfold askE
  rw [if_pos (by omega), if_neg (by omega), if_neg (by omega), nmI_one h, chk_one]
theorem askE_much {x : Int} {ys : List Int} (h : 64 < ys.length) : askE a M zs 4 x ys = 1 := by
  unfold askE
  rw [if_pos (by omega), if_neg (by omega), if_pos ⟨rfl, h⟩]
end
/-! ### the names that were met, as a map -/
end Go.Proofs.Ytacgjaohfcoigaa

/-
  What a request asks for: kinds, sizes, lists held against one another, names; nothing that was there is otherwise. The table of kinds is as the row lists it.
-/
namespace Go.Proofs.Ytacgjaohfcoigaa
set_option maxRecDepth 100000
open Go.RowKit
/-- What is known of a configuration that may be. -/
structure Cf (a : Nat) (p : Int) (n : Nat) (zs : List Int) (M : Nat) : Prop where
  much : Much a p M
  few : n ≤ 64
  ris : risB M 0 zs = true
section
variable {w : World} {lo a m d : Nat} {p sh wo qu tr : Int} {A B : Option Addr} {n c : Nat} {zs : List Int}
theorem Cf.of (h : confB a p n zs sh wo qu tr = true) : ∃ M, Cf a p n zs M := by
  obtain ⟨h1, h2, h3, _⟩ := confB_no h
  refine ⟨2 ^ (32 - p.toNat), Much.of h1, h2, ?_⟩
  rw [← (Much.of h1).manyI]
  exact h3
end
theorem IS.lit {k : IntKind} {w : World} {g : Nat} {t : TypeId} (xs : List Int) {n : Nat} (h : Bk w g t (xs.map (iv k)).toArray) (hn : xs.length = n) (hm : n ≤ 65536) : IS k 0 w (some ⟨g, 0, none⟩) n n xs :=
  ⟨hn, Nat.le_refl _, by unfold maxLen; omega, (fun e => by cases e), fun _ => ⟨g, 0, rfl, Nat.zero_le _, h.lt, fun j hj => by
    rw [Nat.zero_add, h.at_ j (v := .int k (gi xs j)) (by simp [gi_at (xs := xs) (j := j) (by omega), iv, show j < xs.length by omega])]⟩⟩
theorem ak_sz {c0 c1 c2 : Value} : (Try.prog.info? 30).map (·.size) = some (#[c0, c1, c2] : Array Value).size := by kernel_rfl
/-- Numbers of 32 bits. -/
def W32 (ys : List Int) : Prop := ∀ y ∈ ys, 0 ≤ y ∧ y < 4294967296
theorem W32.at_ {ys : List Int} (h : W32 ys) {k : Nat} (hk : k < ys.length) : ∃ y : Nat, gi ys k = y ∧ y < 4294967296 := by
  have := h _ (gi_mem hk)
  exact ⟨(gi ys k).toNat, by omega, by omega⟩
section
variable {w : World} {lo lo' : Nat} {A A' : Option Addr} {n n' c c' : Nat} {xs xs' : List Int}
end
end Go.Proofs.Ytacgjaohfcoigaa

/-
  The names of requests, the program's and the document's: a list in memory of the call's own; whether a request has few; nothing that was there is otherwise. Conditions: at most 60000 addresses.
-/
namespace Go.Proofs.Ytacgjaohfcoigaa
set_option maxRecDepth 100000
open Go.RowKit
/-- A list of addresses in memory of the call's own is answered. -/
def RetRn (l : List Int) (w : World) (e : Ending) (w' : World) : Prop := ∃ A n c, e = .returned (.slice A n c) ∧ Ri .u32 22 w' w.heap.size (.slice A n c) n l ∧ Below w.heap.size w w'
section
variable {w : World} {lo m d : Nat} {k : Int} {x : Int} {B : Option Addr} {ys : List Int}
theorem Ri.one {base : Nat} {w : World} (hb : base ≤ w.heap.size) (x : Int) : Ri .u32 22 (w.alloc (.cells #[.int .u32 x] 22)) base (.slice (some ⟨w.heap.size, 0, none⟩) 1 1) 1 [x] :=
  World.ownsRow_lit w #[.int .u32 x] 1 hb (by unfold maxLen; omega) rfl
theorem Ri.none_ {base : Nat} (w : World) : Ri .u32 22 w base (.slice none 0 0) 0 [] := World.ownsRow_nil w base _ 1
set_option maxHeartbeats 1000000 in
theorem rnames_any (h : IS .u32 lo w B m d ys) (hm : m ≤ 60000) :
    Calls Try.prog 40 #[.agg #[.int .i64 k, .int .u32 x, .slice B m d]] w (RetRn (nmI k x ys) w) := by
  have K := below_alloc w (.cells #[.int .i64 k, .int .u32 x, .slice B m d] 30)
  have H := Bk.new w #[.int .i64 k, .int .u32 x, .slice B m d] 30
  replace h := h.below K
  have hl := h.len
  go_enter Try.func40, Try.ntmps40
  go_upto_region 1 with (fail)
  generalize w.alloc (.cells #[.int .i64 k, .int .u32 x, .slice B m d] 30) = w1 at H K h ⊢
  generalize w.heap.size = g at H ⊢
  have KS := K.size
  have H_0 := H.at_ (v := .int .i64 k) 0 rfl
  have H_1 := H.at_ (v := .int .u32 x) 1 rfl
  have H_2 := H.at_ (v := .slice B m d) 2 rfl
  have H_z := H.lt
  by_cases h1 : k = 2 ∨ k = 3 ∨ k = 5
  · have N := Lib.hid (nmI_one (x := x) (ys := ys) h1)
    rcases h1 with rfl | rfl | rfl
    all_goals
      go_wp2
      go_ret
      rw [N.out]
      exact ⟨_, _, _, rfl, Ri.one KS x, Below.then_ K (below_alloc _ _)⟩
  · by_cases h4 : k = 4
    · subst h4
      rw [nmI_all]
      obtain ⟨i0, hi, hz0, hz1, hz2⟩ := info_parts u32_info
      have hown : Ri .u32 22 (w1.alloc (.cells #[] 22)) w.heap.size (.slice (some ⟨w1.heap.size, 0, none⟩) 0 0) 0 [] := World.ownsRow_lit w1 #[] 0 KS (by unfold maxLen; omega) rfl
      have Ka := below_alloc w1 (.cells #[] 22)
      obtain ⟨B1, b1, wq, hap, R1, K1⟩ := run_app (P := Try.prog) Try.underlying28 hi hz0 hz1 (by omega) hown (h.below Ka) (by omega) (Nat.le_trans KS Ka.size) 28
      rw [Nat.zero_add] at hap R1
      rw [List.nil_append] at R1
      have HA := Lib.hid hap
      clear hap hi hz0 hz1 hz2 hown
      go_wp2_with (first | (at_builtin; refine wpList_append_run rfl (.tmp 22) (.tmp 24) 28 rfl _ _ _ _ rfl rfl HA.out ?_))
      go_ret
      exact ⟨_, _, _, rfl, R1, (Below.then_ K Ka).trans K1⟩
    · have N := Lib.hid (nmI_none (x := x) (ys := ys) h1 h4)
      have e2 : (k == 2) = false := by simp; omega
      have e3 : (k == 3) = false := by simp; omega
      have e5 : (k == 5) = false := by simp; omega
      have e4 : (k == 4) = false := by simp; omega
      clear h1 h4
      go_wp2
      go_ret
      rw [N.out]
      exact ⟨_, _, _, rfl, Ri.none_ _, K⟩
theorem few_any (h : IS .u32 lo w B m d ys) :
    Calls Try.prog 18 #[.agg #[.int .i64 k, .int .u32 x, .slice B m d]] w (RetBo (decide (m ≤ 100)) w) := by
  have K := below_alloc w (.cells #[.int .i64 k, .int .u32 x, .slice B m d] 30)
  have H := Bk.new w #[.int .i64 k, .int .u32 x, .slice B m d] 30
  have hc := h.cap
  have hm := h.most
  go_enter Try.func18, Try.ntmps18
  go_upto_region 1 with (fail)
  generalize w.alloc (.cells #[.int .i64 k, .int .u32 x, .slice B m d] 30) = w1 at H K ⊢
  generalize w.heap.size = g at H ⊢
  have H_2 := H.at_ (v := .slice B m d) 2 rfl
  have H_z := H.lt
  go_wp2
  go_ret
  exact ⟨ret_bool (by simp; omega), K⟩
theorem few_yes (h : IS .u32 lo w B m d ys) (hf : m ≤ 100) :
    Calls Try.prog 18 #[.agg #[.int .i64 k, .int .u32 x, .slice B m d]] w (RetBo true w) := by
  have := few_any (k := k) (x := x) h; rwa [decide_eq_true hf] at this
theorem few_no (h : IS .u32 lo w B m d ys) (hf : ¬ m ≤ 100) :
    Calls Try.prog 18 #[.agg #[.int .i64 k, .int .u32 x, .slice B m d]] w (RetBo false w) := by
  have := few_any (k := k) (x := x) h; rwa [decide_eq_false hf] at this
end
end Go.Proofs.Ytacgjaohfcoigaa

/-
  Requests looked at, by the program and by the document's definition: the same error; nothing that was there is otherwise. Conditions: at most 60000 addresses.
-/
namespace Go.Proofs.Ytacgjaohfcoigaa
set_option maxRecDepth 100000
open Go.RowKit
theorem W32.nm {k : Int} {X : Nat} {ys : List Int} (hX : X < 4294967296) (hw : W32 ys) : W32 (nmI k X ys) := by
  unfold nmI; split
  · intro y hy; simp only [List.mem_singleton] at hy; omega
  · split
    · exact hw
    · intro y hy; simp at hy
theorem Ri.is_ {w : World} {base n c : Nat} {A : Option Addr} {xs : List Int} (h : Ri .u32 22 w base (.slice A n c) n xs) : IS .u32 base w A n c xs := h.is
section
variable {w : World} {lo lo2 a M m d X : Nat} {p sh wo qu tr k : Int} {A B : Option Addr} {n c : Nat} {zs ys : List Int}
end
end Go.Proofs.Ytacgjaohfcoigaa

/-
  Requests looked at by the document's definition: the same error as the program's; nothing that was there is otherwise. Conditions: at most 60000 addresses.
-/
namespace Go.Proofs.Ytacgjaohfcoigaa
set_option maxRecDepth 100000
open Go.RowKit
section
variable {w : World} {lo lo2 a M m d X : Nat} {p sh wo qu tr k : Int} {A B : Option Addr} {n c : Nat} {zs ys : List Int}
set_option maxRecDepth 100000 in
set_option maxHeartbeats 2000000 in
theorem rcheck_any (hM : Much a p M) (h : IS .i64 lo w A n c zs) (hn : n ≤ 65536) (hs : IS .u32 lo2 w B m d ys) (hm : m ≤ 60000) (hX : X < 4294967296) (hw : W32 ys) :
    Calls Try.prog 19 #[.agg #[.int .u32 a, .int .i64 p, .slice A n c, .int .i64 sh, .int .i64 wo, .int .i64 qu, .int .i64 tr], .agg #[.int .i64 k, .int .u32 (X : Int), .slice B m d]] w fun e w' => e = .returned (.int .i64 (askE a M zs k X ys)) ∧ Below w.heap.size w w' := by
  have K := Below.refl w.heap.size w
  go_enter Try.func19, Try.ntmps19
  go_upto_region 1 with (fail)
  replace h := h.below (below_alloc _ (.cells #[.int .u32 a, .int .i64 p, .slice A n c, .int .i64 sh, .int .i64 wo, .int .i64 qu, .int .i64 tr] 27))
  replace hs := hs.below (below_alloc _ (.cells #[.int .u32 a, .int .i64 p, .slice A n c, .int .i64 sh, .int .i64 wo, .int .i64 qu, .int .i64 tr] 27))
  replace K := Below.then_ K (below_alloc _ (.cells #[.int .u32 a, .int .i64 p, .slice A n c, .int .i64 sh, .int .i64 wo, .int .i64 qu, .int .i64 tr] 27))
  have H := Bk.new (w) #[.int .u32 a, .int .i64 p, .slice A n c, .int .i64 sh, .int .i64 wo, .int .i64 qu, .int .i64 tr] 27
  replace H := H.alloc (.cells #[.int .i64 k, .int .u32 (X : Int), .slice B m d] 30)
  replace h := h.below (below_alloc _ (.cells #[.int .i64 k, .int .u32 (X : Int), .slice B m d] 30))
  replace hs := hs.below (below_alloc _ (.cells #[.int .i64 k, .int .u32 (X : Int), .slice B m d] 30))
  replace K := Below.then_ K (below_alloc _ (.cells #[.int .i64 k, .int .u32 (X : Int), .slice B m d] 30))
  have G := Bk.new ((w).alloc (.cells #[.int .u32 a, .int .i64 p, .slice A n c, .int .i64 sh, .int .i64 wo, .int .i64 qu, .int .i64 tr] 27)) #[.int .i64 k, .int .u32 (X : Int), .slice B m d] 30
  try simp only [World.size_alloc] at H G
  generalize ((w).alloc (.cells #[.int .u32 a, .int .i64 p, .slice A n c, .int .i64 sh, .int .i64 wo, .int .i64 qu, .int .i64 tr] 27)).alloc (.cells #[.int .i64 k, .int .u32 (X : Int), .slice B m d] 30) = w1 at H G h hs K ⊢
  generalize w.heap.size + 1 = gG at H G ⊢
  generalize w.heap.size = gH at H G ⊢
  have hN := W32.nm (k := k) hX hw
  replace hw := Lib.hid hw
  have hl := Lib.hid hs.len
  have mc := hs.cap
  have mm := hs.most
  unfold maxLen at mm
  have G_0 := G.at_ (v := .int .i64 k) 0 rfl
  have G_1 := G.at_ (v := .int .u32 (X : Int)) 1 rfl
  have G_2 := G.at_ (v := .slice B m d) 2 rfl
  have G_z := G.lt
  by_cases k1 : k < 1
  · go_wp2
    go_ret
    exact ⟨ret_int (by unfold askE; rw [if_neg (by omega)]), K⟩
  by_cases k7 : 7 < k
  · go_wp2
    go_ret
    exact ⟨ret_int (by unfold askE; rw [if_neg (by omega)]), K⟩
  by_cases b0 : k = 4 ∧ m = 0
  · obtain ⟨rfl, rfl⟩ := b0
    go_wp2
    go_ret
    exact ⟨ret_int (by unfold askE; rw [if_pos (by omega), if_pos ⟨rfl, hl.out⟩]), K⟩
  by_cases b1 : k = 4 ∧ 64 < m
  · obtain ⟨rfl, b1⟩ := b1
    have e0 : ((m : Int) == 0) = false := by simp; omega
    go_wp2
    go_ret
    exact ⟨ret_int (askE_much (by have := hl.out; omega)).symm, K⟩
  have hA : askE a M zs k X ys = chk a M zs [] (nmI k X ys) := by
    have := hl.out
    unfold askE; rw [if_pos (by omega), if_neg (by omega), if_neg (by omega)]
  replace hA := Lib.hid hA
  have T := Lib.hid (rnames_any (k := k) (x := X) hs hm)
  have key : ((k == 4) = true ∧ ((m : Int) == 0) = false ∧ decide ((64 : Int) < (m : Int)) = false) ∨ (k == 4) = false := by
    by_cases g : k = 4
    · exact .inl ⟨by simp [g], by simp; omega, by simp; omega⟩
    · exact .inr (by simp [g])
  have e1 : decide (k < 1) = false := by simp; omega
  have e7 : decide (7 < k) = false := by simp; omega
  have hlen := nmI_len (k := k) (x := (X : Int)) (ys := ys) (n := 60000) (by have := hl.out; omega) (by omega)
  generalize nmI k X ys = qs at T hlen hN hA
  replace hlen := Lib.hid hlen
  replace hN := Lib.hid hN
  clear b0 b1 k1 k7
  rcases key with ⟨e4, e0, e64⟩ | e4
  all_goals
    go_wp2_with fail
    refine T.out.mono ?_
    rintro e w2 ⟨NA, Nn, Nc, rfl, R, K'⟩
    clear T G_0 G_1 G_2 G_z
    clear hs
    clear G
    replace H := H.below K'
    replace h := h.below K'
    replace K := Below.then_ K K'
    clear K'
    replace R := R.is
    have hnl := R.len
    have hNn : Nn ≤ 60000 := by have := hlen.out; omega
    replace hnl := Lib.hid hnl
    go_wp2
    go_loopw [6] (fun i wr => ∃ k : Nat, k ≤ Nn ∧ i = .int .i64 k ∧ Below w2.heap.size w2 wr ∧ Hid (Left_ a M zs qs k)) (fun i _ => Nn - (intOf i).toNat)
    case atStart => exact ⟨0, Nat.zero_le _, rfl, Below.refl _ _, Lib.hid (Left_.start _ _ _ _)⟩
    case round =>
      obtain ⟨k, hk, rfl, Kr, L⟩ := hrel
      by_cases hlt : k < Nn
      · obtain ⟨y, hy, hyb⟩ := hN.out.at_ (k := k) (by have := hnl.out; omega)
        obtain ⟨b, o, rfl, hbl, hc⟩ := (R.below Kr).get hlt
        rw [hy] at hc
        replace H := H.below Kr
        replace h := h.below Kr
        have hkl : k < qs.length := by have := hnl.out; omega
        replace hkl := Lib.hid hkl
        have T := fun w5 (K5 : Below wr.heap.size wr w5) => Lib.hid (rfind_any (sh := sh) (wo := wo) (qu := qu) (tr := tr) (w := w5) y hyb hM (h.below K5) hn)
        have hfE : fiE a M (gi qs k).toNat zs = fiE a M y zs := by rw [hy]; rfl
        generalize fiE a M y zs = E at T hfE
        generalize fiO a M y zs = F at T
        replace hfE := Lib.hid hfE
        replace hy := Lib.hid hy
        go_wp2_with fail
        refine wp_region_held_drew (S := fun w' => Below wr.heap.size wr w') (by kernel_rfl) (Below.refl _ _).drew (fun hHeld => ?_)
        refine wpAnyH_take (i := 0) (oi := ⟨some 45, _, _, _, _, _⟩) (v := ?_) rfl (by kernel_rfl) (by kernel_rfl) (by kernel_rfl) (fun _ _ _ h => h) (Or.inl ⟨by rfl, ?_⟩) hHeld ?_
        rotate_left
        · intro ww hSw
          try dsimp only at hSw
          have H_0 := (H.below hSw).at_ (v := .int .u32 a) 0 rfl
          have H_1 := (H.below hSw).at_ (v := .int .i64 p) 1 rfl
          have H_2 := (H.below hSw).at_ (v := .slice A n c) 2 rfl
          have H_3 := (H.below hSw).at_ (v := .int .i64 sh) 3 rfl
          have H_4 := (H.below hSw).at_ (v := .int .i64 wo) 4 rfl
          have H_5 := (H.below hSw).at_ (v := .int .i64 qu) 5 rfl
          have H_6 := (H.below hSw).at_ (v := .int .i64 tr) 6 rfl
          have hc_ := (hSw.cell (p := ⟨b, o + k, none⟩) hbl).trans hc
          go_simp
          try with_reducible rfl
          try omega
        try simp only [Act.put, List.setIfInBounds_toArray, List.set_cons_zero, List.set_cons_succ]
        refine wpAnyH_take (i := 1) (oi := ⟨some 46, _, _, _, _, _⟩) (v := ?_) rfl (by kernel_rfl) (by kernel_rfl) (by kernel_rfl) (fun _ _ _ h => h) (Or.inl ⟨by rfl, ?_⟩) hHeld ?_
        rotate_left
        · intro ww hSw
          try dsimp only at hSw
          go_simp
          try with_reducible rfl
          try omega
        try simp only [Act.put, List.setIfInBounds_toArray, List.set_cons_zero, List.set_cons_succ]
        refine wpAnyH_take (i := 2) (oi := ⟨some 47, _, _, _, _, _⟩) (v := ?_) rfl (by kernel_rfl) (by kernel_rfl) (by kernel_rfl) (fun _ _ _ h => h) (Or.inl ⟨by rfl, ?_⟩) hHeld ?_
        rotate_left
        · intro ww hSw
          try dsimp only at hSw
          go_simp
          try with_reducible rfl
          try omega
        try simp only [Act.put, List.setIfInBounds_toArray, List.set_cons_zero, List.set_cons_succ]
        refine wpAnyH_take (i := 3) (oi := ⟨some 48, _, _, _, _, _⟩) (v := ?_) rfl (by kernel_rfl) (by kernel_rfl) (by kernel_rfl) (fun _ _ _ h => h) (Or.inl ⟨by rfl, ?_⟩) hHeld ?_
        rotate_left
        · intro ww hSw
          try dsimp only at hSw
          go_simp
          try with_reducible rfl
          try omega
        try simp only [Act.put, List.setIfInBounds_toArray, List.set_cons_zero, List.set_cons_succ]
        refine wpAnyH_take (i := 4) (oi := ⟨some 49, _, _, _, _, _⟩) (v := ?_) rfl (by kernel_rfl) (by kernel_rfl) (by kernel_rfl) (fun _ _ _ h => h) (Or.inl ⟨by rfl, ?_⟩) hHeld ?_
        rotate_left
        · intro ww hSw
          try dsimp only at hSw
          have H_0 := (H.below hSw).at_ (v := .int .u32 a) 0 rfl
          have H_1 := (H.below hSw).at_ (v := .int .i64 p) 1 rfl
          have H_2 := (H.below hSw).at_ (v := .slice A n c) 2 rfl
          have H_3 := (H.below hSw).at_ (v := .int .i64 sh) 3 rfl
          have H_4 := (H.below hSw).at_ (v := .int .i64 wo) 4 rfl
          have H_5 := (H.below hSw).at_ (v := .int .i64 qu) 5 rfl
          have H_6 := (H.below hSw).at_ (v := .int .i64 tr) 6 rfl
          have hc_ := (hSw.cell (p := ⟨b, o + k, none⟩) hbl).trans hc
          go_simp
          try with_reducible rfl
          try omega
        try simp only [Act.put, List.setIfInBounds_toArray, List.set_cons_zero, List.set_cons_succ]
        refine wpAnyH_ready (rs := [5]) (by kernel_rfl) (by simp) ?_
        refine AllReadyH.cons (o := ⟨some 50, _, _, _, _, _⟩) rfl (fun K0 hK => ?_) AllReadyH.nil
        go_simp
        refine ((T _ hHeld).out).mono ?_
        rintro e ww ⟨rfl, K'⟩
        refine hK.out _ _ (Below.then_ hHeld K') (fun hHeld' => ?_)
        clear hHeld K' hK K0
        have hHeld := hHeld'
        clear hHeld'
        try simp only [Act.put, List.setIfInBounds_toArray, List.set_cons_zero, List.set_cons_succ]
        refine wpAnyH_take (i := 6) (oi := ⟨some 44, _, _, _, _, _⟩) (v := ?_) rfl (by kernel_rfl) (by kernel_rfl) (by kernel_rfl) (fun _ _ _ h => h) (Or.inl ⟨by rfl, ?_⟩) hHeld ?_
        rotate_left
        · intro ww hSw
          try dsimp only at hSw
          go_simp
          try with_reducible rfl
          try omega
        try simp only [Act.put, List.setIfInBounds_toArray, List.set_cons_zero, List.set_cons_succ]
        refine wpAnyH_take (i := 7) (oi := ⟨some 51, _, _, _, _, _⟩) (v := ?_) rfl (by kernel_rfl) (by kernel_rfl) (by kernel_rfl) (fun _ _ _ h => h) (Or.inl ⟨by rfl, ?_⟩) hHeld ?_
        rotate_left
        · intro ww hSw
          try dsimp only at hSw
          go_simp
          try with_reducible rfl
          try omega
        try simp only [Act.put, List.setIfInBounds_toArray, List.set_cons_zero, List.set_cons_succ]
        refine wpAnyH_take (i := 8) (oi := ⟨some 52, _, _, _, _, _⟩) (v := ?_) rfl (by kernel_rfl) (by kernel_rfl) (by kernel_rfl) (fun _ _ _ h => h) (Or.inl ⟨by rfl, ?_⟩) hHeld ?_
        rotate_left
        · intro ww hSw
          try dsimp only at hSw
          go_simp
          try with_reducible rfl
          try omega
        try simp only [Act.put, List.setIfInBounds_toArray, List.set_cons_zero, List.set_cons_succ]
        refine wpAnyH_take (i := 9) (oi := ⟨some 7, _, _, _, _, _⟩) (v := ?_) rfl (by kernel_rfl) (by kernel_rfl) (by kernel_rfl) (fun _ _ _ h => h) (Or.inl ⟨by rfl, ?_⟩) hHeld ?_
        rotate_left
        · intro ww hSw
          try dsimp only at hSw
          go_simp
          try with_reducible rfl
          try omega
        try simp only [Act.put, List.setIfInBounds_toArray, List.set_cons_zero, List.set_cons_succ]
        refine wpAnyH_take (i := 10) (oi := ⟨some 8, _, _, _, _, _⟩) (v := ?_) rfl (by kernel_rfl) (by kernel_rfl) (by kernel_rfl) (fun _ _ _ h => h) (Or.inl ⟨by rfl, ?_⟩) hHeld ?_
        rotate_left
        · intro ww hSw
          try dsimp only at hSw
          go_simp
          try with_reducible rfl
          try omega
        try simp only [Act.put, List.setIfInBounds_toArray, List.set_cons_zero, List.set_cons_succ]
        refine wpAnyH_done (by kernel_rfl) ?_ _
        have K9 := hHeld
        clear hHeld T
        have Kq := Kr.trans (K9.mono Kr.size)
        by_cases hE : E = 0
        · subst hE
          go_wp2
          clear hc H
          go_loopw [9] (fun v wr2 => ∃ j : Nat, j ≤ k ∧ v = .int .i64 j ∧ Below w2.heap.size w2 wr2 ∧ Hid (∀ i, i < j → gi qs i ≠ gi qs k)) (fun v _ => k - (intOf v).toNat)
          case atStart => exact ⟨0, Nat.zero_le _, rfl, Kq, Lib.hid (fun i hi => absurd hi (by omega))⟩
          case round =>
            obtain ⟨j, hj, rfl, Kj, N⟩ := hrel
            by_cases hjk : j < k
            · have c1 := (R.below Kj).here (j := j) (by omega)
              have c2 := (R.below Kj).here hlt
              by_cases hx : gi qs j = gi qs k
              · have e1 : (gi qs j == gi qs k) = true := by simp [hx]
                have hx := Lib.hid hx
                go_wp2
                go_quiet (fail)
                go_wp2
                go_ret
                exact ⟨ret_int (hA.out.trans (L.out.twice hkl.out hfE.out hjk hx.out)).symm, Below.then_ K (below_drewN Kj _)⟩
              · have e1 : (gi qs j == gi qs k) = false := by simp [hx]
                have hx := Lib.hid hx
                go_wp2
                go_quiet (fail)
                go_wp2
                go_roundw
                case rel =>
                  refine ⟨j + 1, by omega, by go_num, below_drewN Kj _, Lib.hid (fun i hi => ?_)⟩
                  rcases Nat.lt_or_ge i j with g | g
                  · exact N.out i g
                  · obtain rfl : i = j := by omega
                    exact hx.out
                case measure => simp [intOf]; omega
            · go_wp2
              go_roundw
              case rel => exact ⟨k + 1, by omega, by go_num, Kj, Lib.hid (L.out.step hkl.out hfE.out (fun i hi => N.out i (by omega)))⟩
              case measure => simp [intOf]; omega
        · have e9 : (E != 0) = true := by simp [hE]
          replace hE := Lib.hid hE
          go_wp2
          go_ret
          exact ⟨ret_int (hA.out.trans (L.out.bad hkl.out hfE.out hE.out)).symm, Below.then_ K Kq⟩
      · go_wp2
        go_ret
        exact ⟨ret_int (hA.out.trans (L.out.end_ (by have := hnl.out; omega))).symm, Below.then_ K Kr⟩
end
end Go.Proofs.Ytacgjaohfcoigaa

/-
  What the steps of an exact grant, or a question, answer, as propositions. No program in it.
-/
namespace Go.Proofs.Ytacgjaohfcoigaa
set_option maxRecDepth 100000
set_option maxRecDepth 100000
open Go.RowKit
set_option linter.unusedVariables false
/-- What the program's step answers: cells in new memory or those that were handed in, an operation with lists of its own, whether it took effect. -/
def RetX (s : Sc) (l : Ls) (m : Nat) (ys : List Nat) (b : Bool) (B0 : Option Addr) (w : World) (e : Ending) (w' : World) : Prop :=
  ∃ h' B d, e = .returned (.tuple #[.slice B m d, .agg (opv h' s), .bool b]) ∧ US w' B m d ys ∧ Lists w.heap.size w' h' l ∧ (∀ k, k < w.heap.size → Apart k B0 → Apart k B) ∧ Below w.heap.size w w'
/-- What beginning answers: an operation whose list of the request's is that which came in, or a new one. -/
def RetXB (s : Sc) (xs : List Int) (h0 : Hd) (w : World) (e : Ending) (w' : World) : Prop := ∃ h', e = .returned (.agg (opv h' s)) ∧ Lists 0 w' h' ⟨xs, [], [], []⟩ ∧ SAo h0 h' w ∧ Below w.heap.size w w'
end Go.Proofs.Ytacgjaohfcoigaa

/-
  What the law's right answers. Conditions: lists in memory; what the request's list holds fits 32 bits.
-/
namespace Go.Proofs.Ytacgjaohfcoigaa
set_option maxRecDepth 100000
set_option maxRecDepth 100000
open Go.RowKit
set_option linter.unusedVariables false
/-- What is known of a request that is right. -/
def RightP (a : Nat) (p : Int) (n : Nat) (zs : List Int) (sh : Int) (m : Nat) (kd : Int) (X : Nat) : Prop :=
  (∃ M ns, Cg a p n zs sh M ns ∧ fiE a M X zs = 0) ∧ m ≤ 100 ∧ (kd = 2 ∨ kd = 5)
section
variable {w : World} {lo lo2 a m d X : Nat} {p sh wo qu tr kd : Int} {A B : Option Addr} {n c : Nat} {zs ys : List Int}
set_option maxRecDepth 100000 in
set_option maxHeartbeats 2000000 in
theorem right_any (ha : a < 4294967296) (h0 : IS .i64 lo w A n c zs) (hs : IS .u32 lo2 w B m d ys) (hX : X < 4294967296) (hw : W32 ys) :
    Calls Try.prog 7 #[.agg #[.int .u32 (a : Int), .int .i64 p, .slice A n c, .int .i64 sh, .int .i64 wo, .int .i64 qu, .int .i64 tr], .agg #[.int .i64 kd, .int .u32 (X : Int), .slice B m d]] w (RetW (RightP a p n zs sh m kd X) w) := by
  go_enter Try.func7, Try.ntmps7
  go_upto_region 1 with (fail)
  have L := Loc.start w
  replace L := ((L).alloc #[.int .u32 (a : Int), .int .i64 p, .slice A n c, .int .i64 sh, .int .i64 wo, .int .i64 qu, .int .i64 tr] 27).alloc #[.int .i64 kd, .int .u32 (X : Int), .slice B m d] 30
  try simp only [World.size_alloc] at L
  try dsimp only [nput] at L
  generalize ((w).alloc (.cells #[.int .u32 (a : Int), .int .i64 p, .slice A n c, .int .i64 sh, .int .i64 wo, .int .i64 qu, .int .i64 tr] 27)).alloc (.cells #[.int .i64 kd, .int .u32 (X : Int), .slice B m d] 30) = w1 at L ⊢
  generalize w.heap.size + 1 = gG at L ⊢
  generalize w.heap.size = gH at L ⊢
  go_wp2_with (refine wpList_load_row rfl 27 (.tmp 2) rfl gH rfl _ _ (0, 0) _ (L.bk_ 1 rfl) Try.underlying27 rfl cf_sz ?_)
  refine (small_any ha (h0.below L.K)).mono ?_
  rintro e w2 ⟨bo, rfl, hB, K'⟩
  replace L := L.over K'
  rcases bo with _ | _
  · go_wp2
    go_ret
    exact ⟨false, rfl, (fun e => by cases e), L.K⟩
  replace hB := hB rfl
  obtain ⟨M, ns, hC⟩ := hB
  have hM := hC.much
  have hn := hC.few
  replace hC := Lib.hid hC
  go_wp2_with (refine wpList_load_want (by rfl) 30 (.tmp 3) rfl gG rfl _ _ (0, 0) _ (L.bk_ 0 rfl) Try.underlying30 rfl ak_sz ?_)
  by_cases hf : m ≤ 100
  · refine (few_yes (hs.below L.K) hf).mono ?_
    rintro e w3 ⟨rfl, K'⟩
    replace L := L.over K'
    have G_0 := L.at_ 0 0 rfl (v := .int .i64 kd) rfl
    have G_z := L.lt 0 rfl
    by_cases h2 : kd = 2 ∨ kd = 5
    · have hR := (rcheck_any (w := w3) (sh := sh) (wo := wo) (qu := qu) (tr := tr) (k := kd) hM (h0.below L.K) (by omega) (hs.below L.K) (by omega) hX hw)
      rw [askE_one (by omega), Int.toNat_natCast] at hR
      replace hR := Lib.hid hR
      have hP : fiE a M X zs = 0 → RightP a p n zs sh m kd X := fun e => ⟨⟨M, ns, hC.out, e⟩, hf, h2⟩
      replace hP := Lib.hid hP
      have hu : ∀ e : Int, (e == 0) = decide (e = 0) := fun e => rfl
      rcases h2 with rfl | rfl
      · go_wp2_with (first | (refine wpList_load_want (by rfl) 27 (.tmp 2) rfl gH rfl _ _ (0, 0) _ (L.bk_ 1 rfl) Try.underlying27 rfl cf_sz ?_) | (refine wpList_load_want (by rfl) 30 (.tmp 3) rfl gG rfl _ _ (0, 0) _ (L.bk_ 0 rfl) Try.underlying30 rfl ak_sz ?_))
        refine (hR.out).mono ?_
        rintro e w4 ⟨rfl, K'⟩
        replace L := L.over K'
        generalize fiE a M X zs = er at hP ⊢
        go_wp2
        go_ret
        exact ⟨_, rfl, (fun e => hP.out (by simpa using e)), L.K⟩
      · go_wp2_with (first | (refine wpList_load_want (by rfl) 27 (.tmp 2) rfl gH rfl _ _ (0, 0) _ (L.bk_ 1 rfl) Try.underlying27 rfl cf_sz ?_) | (refine wpList_load_want (by rfl) 30 (.tmp 3) rfl gG rfl _ _ (0, 0) _ (L.bk_ 0 rfl) Try.underlying30 rfl ak_sz ?_))
        refine (hR.out).mono ?_
        rintro e w4 ⟨rfl, K'⟩
        replace L := L.over K'
        generalize fiE a M X zs = er at hP ⊢
        go_wp2
        go_ret
        exact ⟨_, rfl, (fun e => hP.out (by simpa using e)), L.K⟩
    · have k2 : (kd == 2) = false := by simp; omega
      have k5 : (kd == 5) = false := by simp; omega
      go_wp2_with (rw [k2])
      go_ret
      exact ⟨false, rfl, (fun e => by cases e), L.K⟩
  · refine (few_no (hs.below L.K) hf).mono ?_
    rintro e w3 ⟨rfl, K'⟩
    replace L := L.over K'
    go_wp2
    go_ret
    exact ⟨false, rfl, (fun e => by cases e), L.K⟩
end
end Go.Proofs.Ytacgjaohfcoigaa

/-
  What the steps that an exact grant is made of answer of it, and two operations of one kind held beside each other. Conditions: a block that may be, as many cells as there are.
-/
namespace Go.Proofs.Ytacgjaohfcoigaa
set_option maxRecDepth 100000
set_option maxRecDepth 100000
open Go.RowKit
set_option linter.unusedVariables false
theorem row_w32 {W : World} {A : Option Addr} {n c : Nat} {z : List Int} (h : IsRow .u32 W A n c z) : ∃ ys, IS .u32 0 W A n c ys ∧ W32 ys := by
  obtain ⟨ys, hI, hw⟩ := IS.of_row h
  refine ⟨ys, hI, fun y hy => ?_⟩
  obtain ⟨Y, e, hY⟩ := wf_u32 (hw y hy)
  omega
theorem fi_in {a M X : Nat} {zs : List Int} (h : fiE a M X zs = 0) : ∃ o, X = a + o ∧ o < M ∧ hasB zs (o : Int) = false := by
  unfold fiE at h
  split at h
  · rename_i hr
    split at h
    · omega
    · rename_i hh
      exact ⟨X - a, by omega, by omega, by simpa using hh⟩
  · omega
section
variable {w w1 : World} {lo lo2 a m d M ns N o n0 c0 : Nat} {p wo qu tr : Int} {A B A0 : Option Addr} {n c : Nat} {zs xs : List Int} {ys : List Nat} {h h' : Hd} {s : Sc}
theorem gx_claim (ha : a < 4294967296) (hM : Much a p M) (hE : EI a M zs o s) (hY : YI M zs ys) (hU : US w B m d ys) (hL : Lists lo w h ⟨xs, [], [], []⟩) (hx : xs.length ≤ 65536) (hph : s.phase = 3) :
    Calls Try.prog 71 #[.agg #[.int .u32 (a : Int), .int .i64 p, .slice A n c, .int .i64 (ns : Int), .int .i64 wo, .int .i64 qu, .int .i64 tr], .slice B m d, .agg (opv h s)] w (RetX (eS a M ys s) ⟨xs, [], [], []⟩ m (gC M ys s) (eB ys s) B w) := by
  obtain ⟨z0, z1, z2, z3⟩ := hL.emp_
  simp only [List.length_nil] at z1 z2 z3
  dsimp only at z0
  have hml := hU.len
  have hyl := hY.len
  have hlv := lv_le hM.most
  have htv := tv_le hM.most
  have hle := hE.le
  have hoM := hE.oM
  obtain ⟨e1, e2, e3⟩ := es_claim (a := a) (M := M) (ys := ys) hph
  rw [e1, e2, e3, hE.fl]
  have R := cstep_claim (w := w) (a := a) (p := p) (sh := (ns : Int)) (wo := wo) (qu := qu) (tr := tr) (A := A) (n := n) (c := c) (xs := xs) ha hM hL.i0 (by omega) (fun h4 => absurd h4 hE.k4) hL (by omega) (by omega) (by omega) hU (by omega) hE.lf (by omega) hE.bt (by omega) (by omega) hE.wd hph
  rw [claimS_no hE.k4] at R
  refine R.mono ?_
  rintro e w' ⟨A0, c0, A1, n1, c1, A2, n2, c2, A3, n3, c3, B', d', rfl, U, L', hA, K⟩
  exact ⟨_, _, _, rfl, U, L', hA, K⟩
theorem gx_mark (ha : a < 4294967296) (hM : Much a p M) (hE : EI a M zs o s) (hY : YI M zs ys) (hU : US w B m d ys) (hL : Lists lo w h ⟨xs, [], [], []⟩) (hx : xs.length ≤ 65536) (hph : s.phase = 4 ∨ s.phase = 5) :
    Calls Try.prog 72 #[.agg #[.int .u32 (a : Int), .int .i64 p, .slice A n c, .int .i64 (ns : Int), .int .i64 wo, .int .i64 qu, .int .i64 tr], .slice B m d, .agg (opv h s)] w fun e w' => ∃ h' B' d', e = .returned (.tuple #[.slice B' m d', .agg (opv h' (eS a M ys s))]) ∧ US w' B' m d' (gC M ys s) ∧ Lists w.heap.size w' h' ⟨xs, [], [], []⟩ ∧ (∀ k, k < w.heap.size → Apart k B → Apart k B') ∧ Below w.heap.size w w' := by
  obtain ⟨z0, z1, z2, z3⟩ := hL.emp_
  simp only [List.length_nil] at z1 z2 z3
  dsimp only at z0
  have hml := hU.len
  have hyl := hY.len
  have hle := hE.le
  obtain ⟨e1, e2, _⟩ := es_mark (a := a) (M := M) (ys := ys) hph
  rw [e1, e2]
  have hk4 := hE.k4
  obtain ⟨oM, hh, kd, lf, bt', it, wd, ph⟩ := hE
  have hat : s.at_ = 0 ∨ s.at_ = 1 := by
    rcases ph with ⟨h, _⟩ | ⟨h, _⟩ | ⟨_, _, q3, q4, _⟩ | ⟨h, _⟩
    · omega
    · omega
    · exact q4
    · omega
  have R := step_any (w := w) (a := a) (p := p) (sh := (ns : Int)) (wo := wo) (qu := qu) (tr := tr) (A := A) (n := n) (c := c) (xs := xs) ha hM (by omega) hL.i0 (fun h4 => absurd h4 hk4) hL (by omega) (by omega) (by omega) hU (by omega) lf hle hat hph wd
  rw [stO_no hk4] at R
  refine R.mono ?_
  rintro e w' ⟨A0, c0, A1, c1, A2, c2, A3, c3, B', d', rfl, U, L', hA, K⟩
  exact ⟨_, _, _, rfl, U, L', hA, K⟩
end
end Go.Proofs.Ytacgjaohfcoigaa

/-
  What lodger/exact.Begin and .Step answer. Conditions: a block that may be, a request that is right, as many cells as there are.
-/
namespace Go.Proofs.Ytacgjaohfcoigaa
set_option maxRecDepth 100000
set_option maxRecDepth 100000
open Go.RowKit
set_option linter.unusedVariables false
theorem op2_info : (Try.prog.info? 76).map (·.size) = some 20 := by kernel_rfl
theorem op2_sz {h : Hd} {s : Sc} : (Try.prog.info? 76).map (·.size) = some (opv h s).size := by rw [opv_size]; exact op2_info
/-- What a step's function answers: RetX over lists that lie from lo on. -/
def RetXL (lo : Nat) (s : Sc) (l : Ls) (m : Nat) (ys : List Nat) (b : Bool) (B0 : Option Addr) (w : World) (e : Ending) (w' : World) : Prop :=
  ∃ h' B d, e = .returned (.tuple #[.slice B m d, .agg (opv h' s), .bool b]) ∧ US w' B m d ys ∧ Lists lo w' h' l ∧ (∀ k, k < w.heap.size → Apart k B0 → Apart k B) ∧ Below w.heap.size w w'
theorem ownx {w : World} {lo : Nat} {h : Hd} {s : Sc} {l : Ls} (L : Lists lo w h l) (h0 : h.n0 ≤ 65536) (h1 : h.n1 ≤ 65536) (h2 : h.n2 ≤ 65536) (h3 : h.n3 ≤ 65536) :
    Calls Try.prog 37 #[.agg (opv h s)] w fun e w' => ∃ h3, e = .returned (.agg (opv h3 s)) ∧ Lists w.heap.size w' h3 l ∧ Below w.heap.size w w' :=
  (own_any L h0 h1 h2 h3).mono fun e w' ⟨_, _, _, _, _, _, _, _, e1, L', K⟩ => ⟨_, e1, L', K⟩
section
variable {w w1 : World} {lo lo2 a m d M ns N o lf b X f n0 c0 : Nat} {p wo qu tr kd : Int} {A B A0 : Option Addr} {n c : Nat} {zs xs : List Int} {ys : List Nat} {h : Hd} {l : Ls} {s : Sc}
set_option maxRecDepth 100000 in
set_option maxHeartbeats 2000000 in
theorem xbegin_any (ha : a < 4294967296) (hM : Much a p M) (hX : X < 4294967296) (hx : X = a + o) (hoM : o < M) (hI : IS .u32 lo2 w A0 n0 c0 xs) (hn0 : n0 ≤ 65536) :
    Calls Try.prog 11 #[.agg #[.int .u32 (a : Int), .int .i64 p, .slice A n c, .int .i64 (ns : Int), .int .i64 wo, .int .i64 qu, .int .i64 tr], .agg #[.int .i64 kd, .int .u32 (X : Int), .slice A0 n0 c0]] w (RetXB (eS0 kd (X : Int) o) xs ⟨A0, n0, c0, none, 0, 0, none, 0, 0, none, 0, 0⟩ w) := by
  have hm9 := hM.most
  obtain ⟨lf, hlf⟩ : ∃ y, y = o / 32 := ⟨_, rfl⟩
  obtain ⟨b, hb⟩ : ∃ y, y = o % 32 := ⟨_, rfl⟩
  have hS : eS0 kd (X : Int) o = ⟨kd, (X : Int), 0, 0, false, 8, 0, 0, (lf : Int), (b : Int), 0, false, 0, 0, 0, 0⟩ := by unfold eS0; rw [← hlf, ← hb]
  rw [hS]
  clear hS
  have TO := fun w => Lib.hid (by have R := offset_in (w := w) (p := p) X hX ha hM (by omega) (by omega); rw [show X - a = o by omega] at R; exact R)
  have TL := fun w => Lib.hid (leaf_any o (by omega) w)
  rw [← hlf, ← hb] at TL
  have hL0 : Lists 0 w ⟨A0, n0, c0, none, 0, 0, none, 0, 0, none, 0, 0⟩ ⟨xs, [], [], []⟩ := ⟨hI.lower (Nat.zero_le _), IS.none_ _ _ _, IS.none_ _ _ _, IS.none_ _ _ _⟩
  have TOwn := fun w (L : Lists 0 w ⟨A0, n0, c0, none, 0, 0, none, 0, 0, none, 0, 0⟩ ⟨xs, [], [], []⟩) => Lib.hid (ownx (s := ⟨kd, (X : Int), 0, 0, false, 8, 0, 0, (lf : Int), (b : Int), 0, false, 0, 0, 0, 0⟩) L hn0 (Nat.zero_le _) (Nat.zero_le _) (Nat.zero_le _))
  clear hlf hb hx hoM hm9 hM hX
  go_enter Try.func11, Try.ntmps11
  go_upto_region 1 with (fail)
  have L := Loc.start w
  replace L := (((L).alloc #[.int .u32 (a : Int), .int .i64 p, .slice A n c, .int .i64 (ns : Int), .int .i64 wo, .int .i64 qu, .int .i64 tr] 27).alloc #[.int .i64 kd, .int .u32 (X : Int), .slice A0 n0 c0] 30).alloc #[.int .i64 0, .int .u32 0, .slice none 0 0, .int .i64 0, .int .u32 0, .bool false, .slice none 0 0, .slice none 0 0, .int .i64 0, .int .i64 0, .int .i64 0, .int .i64 0, .int .i64 0, .int .u64 0, .bool false, .slice none 0 0, .int .i64 0, .int .i64 0, .int .i64 0, .int .i64 0] 44
  try simp only [World.size_alloc] at L
  replace L := L.is 0 (opv hd0 sc0) rfl
  try dsimp only [nput] at L
  generalize (((w).alloc (.cells #[.int .u32 (a : Int), .int .i64 p, .slice A n c, .int .i64 (ns : Int), .int .i64 wo, .int .i64 qu, .int .i64 tr] 27)).alloc (.cells #[.int .i64 kd, .int .u32 (X : Int), .slice A0 n0 c0] 30)).alloc (.cells #[.int .i64 0, .int .u32 0, .slice none 0 0, .int .i64 0, .int .u32 0, .bool false, .slice none 0 0, .slice none 0 0, .int .i64 0, .int .i64 0, .int .i64 0, .int .i64 0, .int .i64 0, .int .u64 0, .bool false, .slice none 0 0, .int .i64 0, .int .i64 0, .int .i64 0, .int .i64 0] 44) = w1 at L ⊢
  generalize w.heap.size + 1 + 1 = gR at L ⊢
  generalize w.heap.size + 1 = gQ at L ⊢
  generalize w.heap.size = gH at L ⊢
  have H_0 := L.at_ 2 0 rfl (v := .int .u32 (a : Int)) rfl
  have H_1 := L.at_ 2 1 rfl (v := .int .i64 p) rfl
  have Q_1 := L.at_ 1 1 rfl (v := .int .u32 (X : Int)) rfl
  have H_z := L.lt 2 rfl
  have Q_z := L.lt 1 rfl
  go_wp2_with fail
  refine ((TO _).out).mono ?_
  rintro e w2 ⟨rfl, K'⟩
  clear H_0 H_1 Q_1 H_z Q_z
  replace L := L.over K'
  go_wp2_with fail
  refine ((TL _).out).mono ?_
  rintro e w' ⟨rfl, rfl⟩
  go_wp2_with (refine wpList_load_row rfl 30 (.tmp 3) rfl gQ rfl _ _ (0, 0) _ (L.bk_ 1 rfl) Try.underlying30 rfl ak_sz ?_)
  have KS := L.K.size
  refine ((TOwn _ (hL0.below L.K)).out).mono ?_
  rintro e w3 ⟨h3, rfl, L', K'⟩
  have Lb := L.lts
  replace L := L.over K'
  replace L := L.lists Lb L'
  clear Lb
  try dsimp only [lF, List.cons_append, List.nil_append] at L
  clear L'
  go_wp2_with (refine wpList_store_row rfl 44 (.tmp 4) (.tmp 26) rfl gR _ rfl rfl _ _ (L.bk_ 0 rfl) op_sz rfl (opv_one _ _) ?_)
  replace L := (L.row 0 rfl (opv h3 ⟨kd, (X : Int), 0, 0, false, 8, 0, 0, (lf : Int), (b : Int), 0, false, 0, 0, 0, 0⟩))
  try dsimp only [nput] at L
  generalize (w3).setRow gR (opv h3 ⟨kd, (X : Int), 0, 0, false, 8, 0, 0, (lf : Int), (b : Int), 0, false, 0, 0, 0, 0⟩) = w4 at L ⊢
  refine bodyPost_ret (v := .agg (opv h3 ⟨kd, (X : Int), 0, 0, false, 8, 0, 0, (lf : Int), (b : Int), 0, false, 0, 0, 0, 0⟩)) ?_ rfl ?_
  · exact results_cell_row (fn := Try.f11) Try.results11 _ _ gR _ _ (0, 0) _ rfl (L.bk_ 0 rfl) Try.underlying44 rfl op_sz
  exact ⟨_, rfl, (L.lists_at (l := ⟨xs, [], [], []⟩) 0 rfl).lower_ (Nat.zero_le _), sao_new (L.lists_at (l := ⟨xs, [], [], []⟩) 0 rfl) KS, L.K⟩
set_option maxRecDepth 100000 in
set_option maxHeartbeats 2000000 in
theorem xph8 (hph : s.phase = 8) :
    Calls Try.prog 38 #[.agg (opv h s)] w fun e w' => e = .returned (.func (.func 59) #[.agg (opv h s)] #[]) ∧ Below w.heap.size w w' := by
  have e0 := hph
  rcases s with ⟨kind, addr, err, aad, used, phase, shard, sought, leaf, bit, word, full, at_, tries, item, stamp⟩
  rcases h with ⟨A0, n0, c0, A1, n1, c1, A2, n2, c2, A3, n3, c3⟩
  try dsimp only at *
  subst hph
  clear e0
  go_enter Try.func38, Try.ntmps38
  go_upto_region 1 with (fail)
  have L := Loc.start w
  replace L := (L).alloc (opv ⟨A0, n0, c0, A1, n1, c1, A2, n2, c2, A3, n3, c3⟩ ⟨kind, addr, err, aad, used, 8, shard, sought, leaf, bit, word, full, at_, tries, item, stamp⟩) 76
  try simp only [World.size_alloc] at L
  try dsimp only [nput] at L
  generalize (w).alloc (.cells (opv ⟨A0, n0, c0, A1, n1, c1, A2, n2, c2, A3, n3, c3⟩ ⟨kind, addr, err, aad, used, 8, shard, sought, leaf, bit, word, full, at_, tries, item, stamp⟩) 76) = w1 at L ⊢
  generalize w.heap.size = gO at L ⊢
  have O_8 := L.at_ 0 8 rfl (v := .int .i64 8) rfl
  have O_z := L.lt 0 rfl
  go_wp2_with (refine wpList_load_row rfl 76 (.tmp 1) rfl gO rfl _ _ (0, 0) _ (L.bk_ 0 rfl) Try.underlying76 rfl op2_sz ?_)
  clear O_8 O_z
  go_ret
  exact ⟨rfl, L.K⟩
set_option maxRecDepth 100000 in
set_option maxHeartbeats 2000000 in
theorem xph3 (hph : s.phase = 3) :
    Calls Try.prog 38 #[.agg (opv h s)] w fun e w' => e = .returned (.func (.func 60) #[.agg (opv h s)] #[]) ∧ Below w.heap.size w w' := by
  have e0 := hph
  rcases s with ⟨kind, addr, err, aad, used, phase, shard, sought, leaf, bit, word, full, at_, tries, item, stamp⟩
  rcases h with ⟨A0, n0, c0, A1, n1, c1, A2, n2, c2, A3, n3, c3⟩
  try dsimp only at *
  subst hph
  clear e0
  go_enter Try.func38, Try.ntmps38
  go_upto_region 1 with (fail)
  have L := Loc.start w
  replace L := (L).alloc (opv ⟨A0, n0, c0, A1, n1, c1, A2, n2, c2, A3, n3, c3⟩ ⟨kind, addr, err, aad, used, 3, shard, sought, leaf, bit, word, full, at_, tries, item, stamp⟩) 76
  try simp only [World.size_alloc] at L
  try dsimp only [nput] at L
  generalize (w).alloc (.cells (opv ⟨A0, n0, c0, A1, n1, c1, A2, n2, c2, A3, n3, c3⟩ ⟨kind, addr, err, aad, used, 3, shard, sought, leaf, bit, word, full, at_, tries, item, stamp⟩) 76) = w1 at L ⊢
  generalize w.heap.size = gO at L ⊢
  have O_8 := L.at_ 0 8 rfl (v := .int .i64 3) rfl
  have O_z := L.lt 0 rfl
  go_wp2_with (refine wpList_load_row rfl 76 (.tmp 1) rfl gO rfl _ _ (0, 0) _ (L.bk_ 0 rfl) Try.underlying76 rfl op2_sz ?_)
  clear O_8 O_z
  go_ret
  exact ⟨rfl, L.K⟩
set_option maxRecDepth 100000 in
set_option maxHeartbeats 2000000 in
theorem xph4 (hph : s.phase = 4) :
    Calls Try.prog 38 #[.agg (opv h s)] w fun e w' => e = .returned (.func (.func 61) #[.agg (opv h s)] #[]) ∧ Below w.heap.size w w' := by
  have e0 := hph
  rcases s with ⟨kind, addr, err, aad, used, phase, shard, sought, leaf, bit, word, full, at_, tries, item, stamp⟩
  rcases h with ⟨A0, n0, c0, A1, n1, c1, A2, n2, c2, A3, n3, c3⟩
  try dsimp only at *
  subst hph
  clear e0
  go_enter Try.func38, Try.ntmps38
  go_upto_region 1 with (fail)
  have L := Loc.start w
  replace L := (L).alloc (opv ⟨A0, n0, c0, A1, n1, c1, A2, n2, c2, A3, n3, c3⟩ ⟨kind, addr, err, aad, used, 4, shard, sought, leaf, bit, word, full, at_, tries, item, stamp⟩) 76
  try simp only [World.size_alloc] at L
  try dsimp only [nput] at L
  generalize (w).alloc (.cells (opv ⟨A0, n0, c0, A1, n1, c1, A2, n2, c2, A3, n3, c3⟩ ⟨kind, addr, err, aad, used, 4, shard, sought, leaf, bit, word, full, at_, tries, item, stamp⟩) 76) = w1 at L ⊢
  generalize w.heap.size = gO at L ⊢
  have O_8 := L.at_ 0 8 rfl (v := .int .i64 4) rfl
  have O_z := L.lt 0 rfl
  go_wp2_with (refine wpList_load_row rfl 76 (.tmp 1) rfl gO rfl _ _ (0, 0) _ (L.bk_ 0 rfl) Try.underlying76 rfl op2_sz ?_)
  clear O_8 O_z
  go_ret
  exact ⟨rfl, L.K⟩
set_option maxRecDepth 100000 in
set_option maxHeartbeats 2000000 in
theorem xph5 (hph : s.phase = 5) :
    Calls Try.prog 38 #[.agg (opv h s)] w fun e w' => e = .returned (.func (.func 61) #[.agg (opv h s)] #[]) ∧ Below w.heap.size w w' := by
  have e0 := hph
  rcases s with ⟨kind, addr, err, aad, used, phase, shard, sought, leaf, bit, word, full, at_, tries, item, stamp⟩
  rcases h with ⟨A0, n0, c0, A1, n1, c1, A2, n2, c2, A3, n3, c3⟩
  try dsimp only at *
  subst hph
  clear e0
  go_enter Try.func38, Try.ntmps38
  go_upto_region 1 with (fail)
  have L := Loc.start w
  replace L := (L).alloc (opv ⟨A0, n0, c0, A1, n1, c1, A2, n2, c2, A3, n3, c3⟩ ⟨kind, addr, err, aad, used, 5, shard, sought, leaf, bit, word, full, at_, tries, item, stamp⟩) 76
  try simp only [World.size_alloc] at L
  try dsimp only [nput] at L
  generalize (w).alloc (.cells (opv ⟨A0, n0, c0, A1, n1, c1, A2, n2, c2, A3, n3, c3⟩ ⟨kind, addr, err, aad, used, 5, shard, sought, leaf, bit, word, full, at_, tries, item, stamp⟩) 76) = w1 at L ⊢
  generalize w.heap.size = gO at L ⊢
  have O_8 := L.at_ 0 8 rfl (v := .int .i64 5) rfl
  have O_z := L.lt 0 rfl
  go_wp2_with (refine wpList_load_row rfl 76 (.tmp 1) rfl gO rfl _ _ (0, 0) _ (L.bk_ 0 rfl) Try.underlying76 rfl op2_sz ?_)
  clear O_8 O_z
  go_ret
  exact ⟨rfl, L.K⟩
set_option maxRecDepth 100000 in
set_option maxHeartbeats 2000000 in
theorem xph0 (hph : s.phase = 0) :
    Calls Try.prog 38 #[.agg (opv h s)] w fun e w' => e = .returned (.func (.func 62) #[.agg (opv h s)] #[]) ∧ Below w.heap.size w w' := by
  have e0 := hph
  rcases s with ⟨kind, addr, err, aad, used, phase, shard, sought, leaf, bit, word, full, at_, tries, item, stamp⟩
  rcases h with ⟨A0, n0, c0, A1, n1, c1, A2, n2, c2, A3, n3, c3⟩
  try dsimp only at *
  subst hph
  clear e0
  go_enter Try.func38, Try.ntmps38
  go_upto_region 1 with (fail)
  have L := Loc.start w
  replace L := (L).alloc (opv ⟨A0, n0, c0, A1, n1, c1, A2, n2, c2, A3, n3, c3⟩ ⟨kind, addr, err, aad, used, 0, shard, sought, leaf, bit, word, full, at_, tries, item, stamp⟩) 76
  try simp only [World.size_alloc] at L
  try dsimp only [nput] at L
  generalize (w).alloc (.cells (opv ⟨A0, n0, c0, A1, n1, c1, A2, n2, c2, A3, n3, c3⟩ ⟨kind, addr, err, aad, used, 0, shard, sought, leaf, bit, word, full, at_, tries, item, stamp⟩) 76) = w1 at L ⊢
  generalize w.heap.size = gO at L ⊢
  have O_8 := L.at_ 0 8 rfl (v := .int .i64 0) rfl
  have O_z := L.lt 0 rfl
  go_wp2_with (refine wpList_load_row rfl 76 (.tmp 1) rfl gO rfl _ _ (0, 0) _ (L.bk_ 0 rfl) Try.underlying76 rfl op2_sz ?_)
  clear O_8 O_z
  go_ret
  exact ⟨rfl, L.K⟩
set_option maxRecDepth 100000 in
set_option maxHeartbeats 2000000 in
theorem xf_claim (ha : a < 4294967296) (hM : Much a p M) (hE : EI a M zs o s) (hY : YI M zs ys) (hU : US w B m d ys) (hL : Lists lo w h ⟨xs, [], [], []⟩) (hx : xs.length ≤ 65536) (hlo : lo ≤ w.heap.size) (hph : s.phase = 3) :
    Calls Try.prog 60 #[.agg (opv h s), .agg #[.int .u32 (a : Int), .int .i64 p, .slice A n c, .int .i64 (ns : Int), .int .i64 wo, .int .i64 qu, .int .i64 tr], .slice B m d] w (RetXL lo (eS a M ys s) ⟨xs, [], [], []⟩ m (gC M ys s) (eB ys s) B w) := by
  have hm0 : 0 < m := by have := hU.len; have := hY.len; omega
  obtain ⟨s2, hs2⟩ : ∃ s2, s2 = eS a M ys s := ⟨_, rfl⟩
  obtain ⟨y2, hy2⟩ : ∃ y2, y2 = gC M ys s := ⟨_, rfl⟩
  obtain ⟨b2, hb2⟩ : ∃ b2, b2 = eB ys s := ⟨_, rfl⟩
  have TK := fun w h (U : US w B m d ys) (L : Lists lo w h ⟨xs, [], [], []⟩) => Lib.hid (gx_claim (w := w) (h := h) (s := s) (ns := ns) (wo := wo) (qu := qu) (tr := tr) (A := A) (n := n) (c := c) ha hM hE hY U L hx hph)
  simp only [← hs2, ← hy2, ← hb2] at TK ⊢
  clear hE hY hs2 hy2 hb2 ha hM
  go_enter Try.func60, Try.ntmps60
  go_upto_region 1 with (fail)
  have L := Loc.start w
  replace L := (((L).alloc (opv h s) 76).alloc #[.int .u32 (a : Int), .int .i64 p, .slice A n c, .int .i64 (ns : Int), .int .i64 wo, .int .i64 qu, .int .i64 tr] 27).alloc #[.int .i64 0, .int .u32 0, .slice none 0 0, .int .i64 0, .int .u32 0, .bool false, .slice none 0 0, .slice none 0 0, .int .i64 0, .int .i64 0, .int .i64 0, .int .i64 0, .int .i64 0, .int .u64 0, .bool false, .slice none 0 0, .int .i64 0, .int .i64 0, .int .i64 0, .int .i64 0] 44
  try simp only [World.size_alloc] at L
  replace L := L.is 0 (opv hd0 sc0) rfl
  try dsimp only [nput] at L
  generalize (((w).alloc (.cells (opv h s) 76)).alloc (.cells #[.int .u32 (a : Int), .int .i64 p, .slice A n c, .int .i64 (ns : Int), .int .i64 wo, .int .i64 qu, .int .i64 tr] 27)).alloc (.cells #[.int .i64 0, .int .u32 0, .slice none 0 0, .int .i64 0, .int .u32 0, .bool false, .slice none 0 0, .slice none 0 0, .int .i64 0, .int .i64 0, .int .i64 0, .int .i64 0, .int .i64 0, .int .u64 0, .bool false, .slice none 0 0, .int .i64 0, .int .i64 0, .int .i64 0, .int .i64 0] 44) = w1 at L ⊢
  generalize w.heap.size + 1 + 1 = gR at L ⊢
  generalize w.heap.size + 1 = gH at L ⊢
  generalize w.heap.size = gO at L ⊢
  go_wp2_with (first | (refine wpList_load_row rfl 27 (.tmp 4) rfl gH rfl _ _ (0, 0) _ (L.bk_ 1 rfl) Try.underlying27 rfl cf_sz ?_) | (refine wpList_load_row rfl 76 (.tmp 3) rfl gO rfl _ _ (0, 0) _ (L.bk_ 2 rfl) Try.underlying76 rfl op2_sz ?_))
  have KS := L.K.size
  refine ((TK _ _ (hU.below L.K) (hL.below L.K)).out).mono ?_
  rintro e w2 ⟨h3, B2, d2, rfl, U, L', hA, K'⟩
  have Lb := L.lts
  replace L := L.over K'
  replace L := L.us_av (fun i b e => hA b.1 (Lb i b e) (hU.apart0 hm0 L i b e)) U
  replace L := L.lists Lb L'
  clear Lb
  try dsimp only [lF, List.cons_append, List.nil_append] at L
  clear U L'
  go_wp2_with (refine wpList_store_row rfl 44 (.tmp 7) (.tmp 14) rfl gR _ rfl rfl _ _ (L.bk_ 0 rfl) op_sz rfl (opv_one _ _) ?_)
  replace L := (L.row 0 rfl (opv h3 s2))
  try dsimp only [nput] at L
  generalize (w2).setRow gR (opv h3 s2) = w3 at L ⊢
  refine bodyPost_ret (v := .tuple #[.slice B2 m d2, .agg (opv h3 s2), .bool b2]) ?_ rfl ?_
  · exact results_tct (fn := Try.f60) Try.results60 _ _ gR _ _ (0, 0) _ rfl (L.bk_ 0 rfl) Try.underlying44 rfl op_sz
  exact ⟨_, _, _, rfl, L.us_ 4 rfl, (L.lists_at (l := ⟨xs, [], [], []⟩) 0 rfl).lower_ (Nat.le_trans hlo KS), fun k hk => hA k (Nat.lt_of_lt_of_le hk KS), L.K⟩
set_option maxRecDepth 100000 in
set_option maxHeartbeats 2000000 in
theorem xf_mark (ha : a < 4294967296) (hM : Much a p M) (hE : EI a M zs o s) (hY : YI M zs ys) (hU : US w B m d ys) (hL : Lists lo w h ⟨xs, [], [], []⟩) (hx : xs.length ≤ 65536) (hlo : lo ≤ w.heap.size) (hph : s.phase = 4 ∨ s.phase = 5) :
    Calls Try.prog 61 #[.agg (opv h s), .agg #[.int .u32 (a : Int), .int .i64 p, .slice A n c, .int .i64 (ns : Int), .int .i64 wo, .int .i64 qu, .int .i64 tr], .slice B m d] w (RetXL lo (eS a M ys s) ⟨xs, [], [], []⟩ m (gC M ys s) (eB ys s) B w) := by
  have hm0 : 0 < m := by have := hU.len; have := hY.len; omega
  obtain ⟨s2, hs2⟩ : ∃ s2, s2 = eS a M ys s := ⟨_, rfl⟩
  obtain ⟨y2, hy2⟩ : ∃ y2, y2 = gC M ys s := ⟨_, rfl⟩
  obtain ⟨b2, hb2⟩ : ∃ b2, b2 = eB ys s := ⟨_, rfl⟩
  have TK := fun w h (U : US w B m d ys) (L : Lists lo w h ⟨xs, [], [], []⟩) => Lib.hid (gx_mark (w := w) (h := h) (s := s) (ns := ns) (wo := wo) (qu := qu) (tr := tr) (A := A) (n := n) (c := c) ha hM hE hY U L hx hph)
  rw [← hb2]
  rw [show b2 = false from hb2.trans (es_mark (a := a) (M := M) (ys := ys) hph).2.2]
  simp only [← hs2, ← hy2] at TK ⊢
  clear hE hY hs2 hy2 hb2 ha hM
  go_enter Try.func61, Try.ntmps61
  go_upto_region 1 with (fail)
  have L := Loc.start w
  replace L := (((L).alloc (opv h s) 76).alloc #[.int .u32 (a : Int), .int .i64 p, .slice A n c, .int .i64 (ns : Int), .int .i64 wo, .int .i64 qu, .int .i64 tr] 27).alloc #[.int .i64 0, .int .u32 0, .slice none 0 0, .int .i64 0, .int .u32 0, .bool false, .slice none 0 0, .slice none 0 0, .int .i64 0, .int .i64 0, .int .i64 0, .int .i64 0, .int .i64 0, .int .u64 0, .bool false, .slice none 0 0, .int .i64 0, .int .i64 0, .int .i64 0, .int .i64 0] 44
  try simp only [World.size_alloc] at L
  replace L := L.is 0 (opv hd0 sc0) rfl
  try dsimp only [nput] at L
  generalize (((w).alloc (.cells (opv h s) 76)).alloc (.cells #[.int .u32 (a : Int), .int .i64 p, .slice A n c, .int .i64 (ns : Int), .int .i64 wo, .int .i64 qu, .int .i64 tr] 27)).alloc (.cells #[.int .i64 0, .int .u32 0, .slice none 0 0, .int .i64 0, .int .u32 0, .bool false, .slice none 0 0, .slice none 0 0, .int .i64 0, .int .i64 0, .int .i64 0, .int .i64 0, .int .i64 0, .int .u64 0, .bool false, .slice none 0 0, .int .i64 0, .int .i64 0, .int .i64 0, .int .i64 0] 44) = w1 at L ⊢
  generalize w.heap.size + 1 + 1 = gR at L ⊢
  generalize w.heap.size + 1 = gH at L ⊢
  generalize w.heap.size = gO at L ⊢
  go_wp2_with (first | (refine wpList_load_row rfl 27 (.tmp 4) rfl gH rfl _ _ (0, 0) _ (L.bk_ 1 rfl) Try.underlying27 rfl cf_sz ?_) | (refine wpList_load_row rfl 76 (.tmp 3) rfl gO rfl _ _ (0, 0) _ (L.bk_ 2 rfl) Try.underlying76 rfl op2_sz ?_))
  have KS := L.K.size
  refine ((TK _ _ (hU.below L.K) (hL.below L.K)).out).mono ?_
  rintro e w2 ⟨h3, B2, d2, rfl, U, L', hA, K'⟩
  have Lb := L.lts
  replace L := L.over K'
  replace L := L.us_av (fun i b e => hA b.1 (Lb i b e) (hU.apart0 hm0 L i b e)) U
  replace L := L.lists Lb L'
  clear Lb
  try dsimp only [lF, List.cons_append, List.nil_append] at L
  clear U L'
  go_upto_region 2 with (refine wpList_store_row rfl 44 (.tmp 10) (.tmp 17) rfl _ _ rfl (show _ = Value.agg (opv h3 s2) from rfl) _ _ (Bk.new _ _ _) op_sz rfl (opv_one _ _) ?_)
  try rw [World.setRow_alloc_new]
  replace L := (L).alloc (opv h3 s2) 44
  try simp only [World.size_alloc] at L
  try dsimp only [nput] at L
  generalize (w2).alloc (.cells (opv h3 s2) 44) = w3 at L ⊢
  generalize w2.heap.size = gP at L ⊢
  replace L := L.drew
  refine wp_region_held_drew (S := fun w' => ∃ v_R : Array Value, v_R.size = 20 ∧ Loc w w' [(gP, 44, opv h3 s2), (gR, 44, v_R), (gH, 27, #[.int .u32 (a : Int), .int .i64 p, .slice A n c, .int .i64 (ns : Int), .int .i64 wo, .int .i64 qu, .int .i64 tr]), (gO, 76, opv h s)] [iF .u32 w1.heap.size h3.A0 h3.n0 h3.c0 xs, iF .u32 w1.heap.size h3.A1 h3.n1 h3.c1 [], iF .i64 w1.heap.size h3.A2 h3.n2 h3.c2 [], iF .u64 w1.heap.size h3.A3 h3.n3 h3.c3 [], uF B2 m d2 y2]) (by kernel_rfl) (⟨_, rfl, L⟩) (fun hHeld => ?_)
  generalize w3.drew = v4 at hHeld L ⊢
  refine wpAnyH_take (i := 0) (oi := ⟨some 18, _, _, _, _, _⟩) (v := .slice B2 m d2) rfl (by kernel_rfl) (by kernel_rfl) (by kernel_rfl) (fun _ _ _ h => h) (Or.inl ⟨by rfl, ?_⟩) hHeld ?_
  · intro ww hS
    try dsimp only at hS
    go_simp
    try with_reducible rfl
    try omega
  try simp only [Act.put, List.setIfInBounds_toArray, List.set_cons_zero, List.set_cons_succ]
  refine wpAnyH_take (i := 1) (oi := ⟨some 19, _, _, _, _, _⟩) (v := .agg (opv h3 s2)) rfl (by kernel_rfl) (by kernel_rfl) (by kernel_rfl) (fun _ _ _ h => h) (yieldsIf_load_row (by rfl) 44 (.tmp 10) rfl gP rfl 44 _ (0, 0) _ (fun _ hS => ((hS.choose_spec.2).bk_ 0 rfl)) Try.underlying44 rfl op_sz) hHeld ?_
  try simp only [Act.put, List.setIfInBounds_toArray, List.set_cons_zero, List.set_cons_succ]
  refine wpAnyH_take (i := 2) (oi := ⟨some 6, _, _, _, _, _⟩) (v := .slice B2 m d2) rfl (by kernel_rfl) (by kernel_rfl) (by kernel_rfl) (fun _ _ _ h => h) (Or.inl ⟨by rfl, ?_⟩) hHeld ?_
  · intro ww hS
    try dsimp only at hS
    go_simp
    try with_reducible rfl
    try omega
  try simp only [Act.put, List.setIfInBounds_toArray, List.set_cons_zero, List.set_cons_succ]
  refine wpAnyH_ready (rs := [3]) (by kernel_rfl) (by simp) ?_
  refine AllReadyH.cons (o := ⟨none, _, _, _, _, _⟩) rfl (fun K0 hK => ?_) AllReadyH.nil
  rw [if_pos (by rfl)]
  refine wp_store_row 44 (.tmp 7) (.tmp 19) rfl gR _ rfl rfl _ _ (L.bk_ 1 rfl) op_sz rfl (opv_one _ _) ?_
  replace L := L.row 1 rfl (opv h3 s2)
  try dsimp only [nput] at L
  refine hK.out _ _ ⟨_, rfl, L⟩ (fun hHeld' => ?_)
  clear hHeld hK K0
  have hHeld := hHeld'
  clear hHeld'
  generalize v4.setRow gR (opv h3 s2) = v5 at hHeld L ⊢
  try simp only [Act.put]
  refine wpAnyH_take (i := 4) (oi := ⟨some 8, _, _, _, _, _⟩) (v := .bool false) rfl (by kernel_rfl) (by kernel_rfl) (by kernel_rfl) (fun _ _ _ h => h) (Or.inl ⟨by rfl, ?_⟩) hHeld ?_
  · intro ww hS
    try dsimp only at hS
    go_simp
    try with_reducible rfl
    try omega
  try simp only [Act.put, List.setIfInBounds_toArray, List.set_cons_zero, List.set_cons_succ]
  refine wpAnyH_done (by kernel_rfl) ?_ _
  clear hHeld
  go_wp2
  refine bodyPost_ret (v := .tuple #[.slice B2 m d2, .agg (opv h3 s2), .bool false]) ?_ rfl ?_
  · exact results_tct (fn := Try.f61) Try.results61 _ _ gR _ _ (0, 0) _ rfl (L.bk_ 1 rfl) Try.underlying44 rfl op_sz
  exact ⟨_, _, _, rfl, L.us_ 4 rfl, (L.lists_at (l := ⟨xs, [], [], []⟩) 0 rfl).lower_ (Nat.le_trans hlo KS), fun k hk => hA k (Nat.lt_of_lt_of_le hk KS), L.K⟩
set_option maxRecDepth 100000 in
set_option maxHeartbeats 2000000 in
theorem xf_stay (ha : a < 4294967296) (hM : Much a p M) (hE : EI a M zs o s) (hY : YI M zs ys) (hU : US w B m d ys) (hL : Lists lo w h ⟨xs, [], [], []⟩) (hx : xs.length ≤ 65536) (hlo : lo ≤ w.heap.size) (hph : s.phase = 0) :
    Calls Try.prog 62 #[.agg (opv h s), .agg #[.int .u32 (a : Int), .int .i64 p, .slice A n c, .int .i64 (ns : Int), .int .i64 wo, .int .i64 qu, .int .i64 tr], .slice B m d] w (RetXL lo (eS a M ys s) ⟨xs, [], [], []⟩ m (gC M ys s) (eB ys s) B w) := by
  obtain ⟨e1, e2, e3⟩ := es_done (a := a) (M := M) (ys := ys) hph
  rw [e1, e2, e3]
  clear e1 e2 e3 hE hY ha hM
  go_enter Try.func62, Try.ntmps62
  go_upto_region 1 with (fail)
  have L := Loc.start w
  replace L := (((L).alloc (opv h s) 76).alloc #[.int .u32 (a : Int), .int .i64 p, .slice A n c, .int .i64 (ns : Int), .int .i64 wo, .int .i64 qu, .int .i64 tr] 27).alloc #[.int .i64 0, .int .u32 0, .slice none 0 0, .int .i64 0, .int .u32 0, .bool false, .slice none 0 0, .slice none 0 0, .int .i64 0, .int .i64 0, .int .i64 0, .int .i64 0, .int .i64 0, .int .u64 0, .bool false, .slice none 0 0, .int .i64 0, .int .i64 0, .int .i64 0, .int .i64 0] 44
  try simp only [World.size_alloc] at L
  replace L := L.is 0 (opv hd0 sc0) rfl
  try dsimp only [nput] at L
  generalize (((w).alloc (.cells (opv h s) 76)).alloc (.cells #[.int .u32 (a : Int), .int .i64 p, .slice A n c, .int .i64 (ns : Int), .int .i64 wo, .int .i64 qu, .int .i64 tr] 27)).alloc (.cells #[.int .i64 0, .int .u32 0, .slice none 0 0, .int .i64 0, .int .u32 0, .bool false, .slice none 0 0, .slice none 0 0, .int .i64 0, .int .i64 0, .int .i64 0, .int .i64 0, .int .i64 0, .int .u64 0, .bool false, .slice none 0 0, .int .i64 0, .int .i64 0, .int .i64 0, .int .i64 0] 44) = w1 at L ⊢
  generalize w.heap.size + 1 + 1 = gR at L ⊢
  generalize w.heap.size + 1 = gH at L ⊢
  generalize w.heap.size = gO at L ⊢
  replace L := L.drew
  refine wp_region_held_drew (S := fun w' => ∃ v_R : Array Value, v_R.size = 20 ∧ Loc w w' [(gR, 44, v_R), (gH, 27, #[.int .u32 (a : Int), .int .i64 p, .slice A n c, .int .i64 (ns : Int), .int .i64 wo, .int .i64 qu, .int .i64 tr]), (gO, 76, opv h s)] []) (by kernel_rfl) (⟨_, rfl, L⟩) (fun hHeld => ?_)
  generalize w1.drew = v2 at hHeld L ⊢
  refine wpAnyH_take (i := 0) (oi := ⟨some 9, _, _, _, _, _⟩) (v := .slice B m d) rfl (by kernel_rfl) (by kernel_rfl) (by kernel_rfl) (fun _ _ _ h => h) (Or.inl ⟨by rfl, ?_⟩) hHeld ?_
  · intro ww hS
    try dsimp only at hS
    go_simp
    try with_reducible rfl
    try omega
  try simp only [Act.put, List.setIfInBounds_toArray, List.set_cons_zero, List.set_cons_succ]
  refine wpAnyH_take (i := 1) (oi := ⟨some 10, _, _, _, _, _⟩) (v := .agg (opv h s)) rfl (by kernel_rfl) (by kernel_rfl) (by kernel_rfl) (fun _ _ _ h => h) (yieldsIf_load_row (by rfl) 76 (.tmp 3) rfl gO rfl 76 _ (0, 0) _ (fun _ hS => ((hS.choose_spec.2).bk_ 2 rfl)) Try.underlying76 rfl op2_sz) hHeld ?_
  try simp only [Act.put, List.setIfInBounds_toArray, List.set_cons_zero, List.set_cons_succ]
  refine wpAnyH_take (i := 2) (oi := ⟨some 6, _, _, _, _, _⟩) (v := .slice B m d) rfl (by kernel_rfl) (by kernel_rfl) (by kernel_rfl) (fun _ _ _ h => h) (Or.inl ⟨by rfl, ?_⟩) hHeld ?_
  · intro ww hS
    try dsimp only at hS
    go_simp
    try with_reducible rfl
    try omega
  try simp only [Act.put, List.setIfInBounds_toArray, List.set_cons_zero, List.set_cons_succ]
  refine wpAnyH_ready (rs := [3]) (by kernel_rfl) (by simp) ?_
  refine AllReadyH.cons (o := ⟨none, _, _, _, _, _⟩) rfl (fun K0 hK => ?_) AllReadyH.nil
  rw [if_pos (by rfl)]
  refine wp_store_row 44 (.tmp 7) (.tmp 10) rfl gR _ rfl rfl _ _ (L.bk_ 0 rfl) op_sz rfl (opv_one _ _) ?_
  replace L := L.row 0 rfl (opv h s)
  try dsimp only [nput] at L
  refine hK.out _ _ ⟨_, rfl, L⟩ (fun hHeld' => ?_)
  clear hHeld hK K0
  have hHeld := hHeld'
  clear hHeld'
  generalize v2.setRow gR (opv h s) = v3 at hHeld L ⊢
  try simp only [Act.put]
  refine wpAnyH_take (i := 4) (oi := ⟨some 8, _, _, _, _, _⟩) (v := .bool false) rfl (by kernel_rfl) (by kernel_rfl) (by kernel_rfl) (fun _ _ _ h => h) (Or.inl ⟨by rfl, ?_⟩) hHeld ?_
  · intro ww hS
    try dsimp only at hS
    go_simp
    try with_reducible rfl
    try omega
  try simp only [Act.put, List.setIfInBounds_toArray, List.set_cons_zero, List.set_cons_succ]
  refine wpAnyH_done (by kernel_rfl) ?_ _
  clear hHeld
  go_wp2
  refine bodyPost_ret (v := .tuple #[.slice B m d, .agg (opv h s), .bool false]) ?_ rfl ?_
  · exact results_tct (fn := Try.f62) Try.results62 _ _ gR _ _ (0, 0) _ rfl (L.bk_ 0 rfl) Try.underlying44 rfl op_sz
  exact ⟨_, _, _, rfl, hU.below L.K, hL.below L.K, fun k _ h => h, L.K⟩
set_option maxRecDepth 100000 in
set_option maxHeartbeats 2000000 in
theorem xf_take (ha : a < 4294967296) (hM : Much a p M) (hE : EI a M zs o s) (hY : YI M zs ys) (hU : US w B m d ys) (hL : Lists lo w h ⟨xs, [], [], []⟩) (hx : xs.length ≤ 65536) (hlo : lo ≤ w.heap.size) (hph : s.phase = 8) (hk : s.kind = 2) (hbit : (gt ys (o / 32)).testBit (o % 32) = false) :
    Calls Try.prog 59 #[.agg (opv h s), .agg #[.int .u32 (a : Int), .int .i64 p, .slice A n c, .int .i64 (ns : Int), .int .i64 wo, .int .i64 qu, .int .i64 tr], .slice B m d] w (RetXL lo (eS a M ys s) ⟨xs, [], [], []⟩ m (gC M ys s) (eB ys s) B w) := by
  have hml := hU.len
  have hyl := hY.len
  have hle := hE.le
  have hlf := hE.lf
  have hbt := hE.bt
  have gl9 := hE.fl
  have fb' := hE.fb
  have hx64 := gt_lt hU.fit (o / 32)
  have TLd := fun w (U : US w B m d ys) => Lib.hid (by have R := load_any U ((o / 32 : Nat) : Int); rw [ldI_nat] at R; exact R)
  have TUs := fun w => Lib.hid (used_any (gt ys (o / 32)) (o % 32) hx64 (by omega) w)
  rw [hbit] at TUs
  obtain ⟨e1, e2⟩ := es_read (a := a) (M := M) (ys := ys) hph
  obtain ⟨x, hx2⟩ : ∃ x, x = gt ys (o / 32) := ⟨_, rfl⟩
  have e4 : eB ys s = false := by unfold eB; rw [if_pos hph, gl9, fb', hk, hbit]; rfl
  have e5 : xkS (gt ys s.leaf.toNat) s = tkS s x := by unfold xkS; rw [gl9, fb', if_pos hk, hbit, if_neg Bool.false_ne_true, hx2]
  rw [e1, e2, e4, e5]
  clear e1 e2 e4 e5
  simp only [← hx2] at TLd TUs
  obtain ⟨lf, hlf2⟩ : ∃ y, y = o / 32 := ⟨_, rfl⟩
  obtain ⟨b, hb2⟩ : ∃ y, y = o % 32 := ⟨_, rfl⟩
  rw [← hlf2] at hlf
  simp only [← hlf2] at TLd
  rw [← hb2] at hbt
  simp only [← hb2] at TUs
  clear hx2 hlf2 hb2 hE hY hyl hx64 gl9 fb' ha hM hle hml hbit
  rcases s with ⟨kind, addr, err, aad, used, phase, shard, sought, leaf, bit, word, full, at_, tries, item, stamp⟩
  rcases h with ⟨A0, n0, c0, A1, n1, c1, A2, n2, c2, A3, n3, c3⟩
  try dsimp only at *
  subst hph hk hlf hbt
  go_enter Try.func59, Try.ntmps59
  go_upto_region 1 with (fail)
  have L := Loc.start w
  replace L := (((L).alloc (opv ⟨A0, n0, c0, A1, n1, c1, A2, n2, c2, A3, n3, c3⟩ ⟨2, addr, err, aad, used, 8, shard, sought, (lf : Int), (b : Int), word, full, at_, tries, item, stamp⟩) 76).alloc #[.int .u32 (a : Int), .int .i64 p, .slice A n c, .int .i64 (ns : Int), .int .i64 wo, .int .i64 qu, .int .i64 tr] 27).alloc #[.int .i64 0, .int .u32 0, .slice none 0 0, .int .i64 0, .int .u32 0, .bool false, .slice none 0 0, .slice none 0 0, .int .i64 0, .int .i64 0, .int .i64 0, .int .i64 0, .int .i64 0, .int .u64 0, .bool false, .slice none 0 0, .int .i64 0, .int .i64 0, .int .i64 0, .int .i64 0] 44
  try simp only [World.size_alloc] at L
  replace L := L.is 0 (opv hd0 sc0) rfl
  try dsimp only [nput] at L
  generalize (((w).alloc (.cells (opv ⟨A0, n0, c0, A1, n1, c1, A2, n2, c2, A3, n3, c3⟩ ⟨2, addr, err, aad, used, 8, shard, sought, (lf : Int), (b : Int), word, full, at_, tries, item, stamp⟩) 76)).alloc (.cells #[.int .u32 (a : Int), .int .i64 p, .slice A n c, .int .i64 (ns : Int), .int .i64 wo, .int .i64 qu, .int .i64 tr] 27)).alloc (.cells #[.int .i64 0, .int .u32 0, .slice none 0 0, .int .i64 0, .int .u32 0, .bool false, .slice none 0 0, .slice none 0 0, .int .i64 0, .int .i64 0, .int .i64 0, .int .i64 0, .int .i64 0, .int .u64 0, .bool false, .slice none 0 0, .int .i64 0, .int .i64 0, .int .i64 0, .int .i64 0] 44) = w1 at L ⊢
  generalize w.heap.size + 1 + 1 = gR at L ⊢
  generalize w.heap.size + 1 = gH at L ⊢
  generalize w.heap.size = gO at L ⊢
  have O_11 := L.at_ 2 11 rfl (v := .int .i64 (lf : Int)) rfl
  have O_z := L.lt 2 rfl
  go_wp2_with fail
  refine ((TLd _ (hU.below L.K)).out).mono ?_
  rintro e w' ⟨rfl, rfl⟩
  clear O_11 O_z
  have O_12 := L.at_ 2 12 rfl (v := .int .i64 (b : Int)) rfl
  have O_z := L.lt 2 rfl
  go_wp2_with fail
  refine ((TUs _).out).mono ?_
  rintro e w' ⟨rfl, rfl⟩
  clear O_12 O_z
  have O_0 := L.at_ 2 0 rfl (v := .int .i64 2) rfl
  have O_13 := L.at_ 2 13 rfl (v := .int .u64 ((word : Nat) : Int)) rfl
  have O_8 := L.at_ 2 8 rfl (v := .int .i64 8) rfl
  have O_z := L.lt 2 rfl
  have O_f13 := L.fz 2 13 rfl
  have O_f8 := L.fz 2 8 rfl
  go_upto_region 8 with fail
  clear O_0 O_13 O_8 O_z O_f13 O_f8
  replace L := (((L.set 2 13 rfl (.int .u64 ((x : Nat) : Int))).set 2 8 rfl (.int .i64 3)).is 2 (opv ⟨A0, n0, c0, A1, n1, c1, A2, n2, c2, A3, n3, c3⟩ ⟨2, addr, err, aad, used, 3, shard, sought, (lf : Int), (b : Int), x, full, at_, tries, item, stamp⟩) rfl)
  try dsimp only [nput] at L
  generalize ((w1).setCell ⟨gO, 13, none⟩ (.int .u64 ((x : Nat) : Int))).setCell ⟨gO, 8, none⟩ (.int .i64 3) = w2 at L ⊢
  replace L := L.drew
  refine wp_region_held_drew (S := fun w' => ∃ v_R : Array Value, v_R.size = 20 ∧ Loc w w' [(gR, 44, v_R), (gH, 27, #[.int .u32 (a : Int), .int .i64 p, .slice A n c, .int .i64 (ns : Int), .int .i64 wo, .int .i64 qu, .int .i64 tr]), (gO, 76, opv ⟨A0, n0, c0, A1, n1, c1, A2, n2, c2, A3, n3, c3⟩ ⟨2, addr, err, aad, used, 3, shard, sought, (lf : Int), (b : Int), x, full, at_, tries, item, stamp⟩)] []) (by kernel_rfl) (⟨_, rfl, L⟩) (fun hHeld => ?_)
  generalize w2.drew = v3 at hHeld L ⊢
  refine wpAnyH_take (i := 0) (oi := ⟨some 36, _, _, _, _, _⟩) (v := .slice B m d) rfl (by kernel_rfl) (by kernel_rfl) (by kernel_rfl) (fun _ _ _ h => h) (Or.inl ⟨by rfl, ?_⟩) hHeld ?_
  · intro ww hS
    try dsimp only at hS
    go_simp
    try with_reducible rfl
    try omega
  try simp only [Act.put, List.setIfInBounds_toArray, List.set_cons_zero, List.set_cons_succ]
  refine wpAnyH_take (i := 1) (oi := ⟨some 37, _, _, _, _, _⟩) (v := .agg (opv ⟨A0, n0, c0, A1, n1, c1, A2, n2, c2, A3, n3, c3⟩ ⟨2, addr, err, aad, used, 3, shard, sought, (lf : Int), (b : Int), x, full, at_, tries, item, stamp⟩)) rfl (by kernel_rfl) (by kernel_rfl) (by kernel_rfl) (fun _ _ _ h => h) (yieldsIf_load_row (by rfl) 76 (.tmp 3) rfl gO rfl 76 _ (0, 0) _ (fun _ hS => ((hS.choose_spec.2).bk_ 2 rfl)) Try.underlying76 rfl op2_sz) hHeld ?_
  try simp only [Act.put, List.setIfInBounds_toArray, List.set_cons_zero, List.set_cons_succ]
  refine wpAnyH_take (i := 2) (oi := ⟨some 38, _, _, _, _, _⟩) (v := .pointer (some ⟨gO, 8, none⟩)) rfl (by kernel_rfl) (by kernel_rfl) (by kernel_rfl) (fun _ _ _ h => h) (Or.inl ⟨by rfl, ?_⟩) hHeld ?_
  · intro ww hS
    try dsimp only at hS
    go_simp
    try with_reducible rfl
    try omega
  try simp only [Act.put, List.setIfInBounds_toArray, List.set_cons_zero, List.set_cons_succ]
  refine wpAnyH_take (i := 3) (oi := ⟨some 39, _, _, _, _, _⟩) (v := .int .i64 3) rfl (by kernel_rfl) (by kernel_rfl) (by kernel_rfl) (fun _ _ _ h => h) (Or.inl ⟨by rfl, ?_⟩) hHeld ?_
  · intro ww hS
    try dsimp only at hS
    have O_8 := (hS.choose_spec.2).at_ 2 8 rfl (v := .int .i64 3) rfl
    have O_z := (hS.choose_spec.2).lt 2 rfl
    go_simp
    try with_reducible rfl
    try omega
  try simp only [Act.put, List.setIfInBounds_toArray, List.set_cons_zero, List.set_cons_succ]
  refine wpAnyH_take (i := 4) (oi := ⟨some 40, _, _, _, _, _⟩) (v := .bool false) rfl (by kernel_rfl) (by kernel_rfl) (by kernel_rfl) (fun _ _ _ h => h) (Or.inl ⟨by rfl, ?_⟩) hHeld ?_
  · intro ww hS
    try dsimp only at hS
    go_simp
    try with_reducible rfl
    try omega
  try simp only [Act.put, List.setIfInBounds_toArray, List.set_cons_zero, List.set_cons_succ]
  refine wpAnyH_take (i := 5) (oi := ⟨some 6, _, _, _, _, _⟩) (v := .slice B m d) rfl (by kernel_rfl) (by kernel_rfl) (by kernel_rfl) (fun _ _ _ h => h) (Or.inl ⟨by rfl, ?_⟩) hHeld ?_
  · intro ww hS
    try dsimp only at hS
    go_simp
    try with_reducible rfl
    try omega
  try simp only [Act.put, List.setIfInBounds_toArray, List.set_cons_zero, List.set_cons_succ]
  refine wpAnyH_ready (rs := [6]) (by kernel_rfl) (by simp) ?_
  refine AllReadyH.cons (o := ⟨none, _, _, _, _, _⟩) rfl (fun K0 hK => ?_) AllReadyH.nil
  rw [if_pos (by rfl)]
  refine wp_store_row 44 (.tmp 7) (.tmp 37) rfl gR _ rfl rfl _ _ (L.bk_ 0 rfl) op_sz rfl (opv_one _ _) ?_
  replace L := L.row 0 rfl (opv ⟨A0, n0, c0, A1, n1, c1, A2, n2, c2, A3, n3, c3⟩ ⟨2, addr, err, aad, used, 3, shard, sought, (lf : Int), (b : Int), x, full, at_, tries, item, stamp⟩)
  try dsimp only [nput] at L
  refine hK.out _ _ ⟨_, rfl, L⟩ (fun hHeld' => ?_)
  clear hHeld hK K0
  have hHeld := hHeld'
  clear hHeld'
  generalize v3.setRow gR (opv ⟨A0, n0, c0, A1, n1, c1, A2, n2, c2, A3, n3, c3⟩ ⟨2, addr, err, aad, used, 3, shard, sought, (lf : Int), (b : Int), x, full, at_, tries, item, stamp⟩) = v4 at hHeld L ⊢
  try simp only [Act.put]
  refine wpAnyH_take (i := 7) (oi := ⟨some 8, _, _, _, _, _⟩) (v := .bool false) rfl (by kernel_rfl) (by kernel_rfl) (by kernel_rfl) (fun _ _ _ h => h) (Or.inl ⟨by rfl, ?_⟩) hHeld ?_
  · intro ww hS
    try dsimp only at hS
    go_simp
    try with_reducible rfl
    try omega
  try simp only [Act.put, List.setIfInBounds_toArray, List.set_cons_zero, List.set_cons_succ]
  refine wpAnyH_done (by kernel_rfl) ?_ _
  clear hHeld
  go_wp2
  refine bodyPost_ret (v := .tuple #[.slice B m d, .agg (opv ⟨A0, n0, c0, A1, n1, c1, A2, n2, c2, A3, n3, c3⟩ ⟨2, addr, err, aad, used, 3, shard, sought, (lf : Int), (b : Int), x, full, at_, tries, item, stamp⟩), .bool false]) ?_ rfl ?_
  · exact results_tct (fn := Try.f59) Try.results59 _ _ gR _ _ (0, 0) _ rfl (L.bk_ 0 rfl) Try.underlying44 rfl op_sz
  exact ⟨_, _, _, rfl, hU.below L.K, hL.below L.K, fun k _ h => h, L.K⟩
set_option maxRecDepth 100000 in
set_option maxHeartbeats 2000000 in
theorem xf_used (ha : a < 4294967296) (hM : Much a p M) (hE : EI a M zs o s) (hY : YI M zs ys) (hU : US w B m d ys) (hL : Lists lo w h ⟨xs, [], [], []⟩) (hx : xs.length ≤ 65536) (hlo : lo ≤ w.heap.size) (hph : s.phase = 8) (hk : s.kind = 2) (hbit : (gt ys (o / 32)).testBit (o % 32) = true) :
    Calls Try.prog 59 #[.agg (opv h s), .agg #[.int .u32 (a : Int), .int .i64 p, .slice A n c, .int .i64 (ns : Int), .int .i64 wo, .int .i64 qu, .int .i64 tr], .slice B m d] w (RetXL lo (eS a M ys s) ⟨xs, [], [], []⟩ m (gC M ys s) (eB ys s) B w) := by
  have hml := hU.len
  have hyl := hY.len
  have hle := hE.le
  have hlf := hE.lf
  have hbt := hE.bt
  have gl9 := hE.fl
  have fb' := hE.fb
  have hx64 := gt_lt hU.fit (o / 32)
  have TLd := fun w (U : US w B m d ys) => Lib.hid (by have R := load_any U ((o / 32 : Nat) : Int); rw [ldI_nat] at R; exact R)
  have TUs := fun w => Lib.hid (used_any (gt ys (o / 32)) (o % 32) hx64 (by omega) w)
  rw [hbit] at TUs
  obtain ⟨e1, e2⟩ := es_read (a := a) (M := M) (ys := ys) hph
  obtain ⟨x, hx2⟩ : ∃ x, x = gt ys (o / 32) := ⟨_, rfl⟩
  have e4 : eB ys s = true := by unfold eB; rw [if_pos hph, gl9, fb', hk, hbit]; rfl
  have e5 : xkS (gt ys s.leaf.toNat) s = usdS s := by unfold xkS; rw [gl9, fb', if_pos hk, hbit, if_pos rfl]
  rw [e1, e2, e4, e5]
  clear e1 e2 e4 e5
  simp only [← hx2] at TLd TUs
  obtain ⟨lf, hlf2⟩ : ∃ y, y = o / 32 := ⟨_, rfl⟩
  obtain ⟨b, hb2⟩ : ∃ y, y = o % 32 := ⟨_, rfl⟩
  rw [← hlf2] at hlf
  simp only [← hlf2] at TLd
  rw [← hb2] at hbt
  simp only [← hb2] at TUs
  clear hx2 hlf2 hb2 hE hY hyl hx64 gl9 fb' ha hM hle hml hbit
  rcases s with ⟨kind, addr, err, aad, used, phase, shard, sought, leaf, bit, word, full, at_, tries, item, stamp⟩
  rcases h with ⟨A0, n0, c0, A1, n1, c1, A2, n2, c2, A3, n3, c3⟩
  try dsimp only at *
  subst hph hk hlf hbt
  go_enter Try.func59, Try.ntmps59
  go_upto_region 1 with (fail)
  have L := Loc.start w
  replace L := (((L).alloc (opv ⟨A0, n0, c0, A1, n1, c1, A2, n2, c2, A3, n3, c3⟩ ⟨2, addr, err, aad, used, 8, shard, sought, (lf : Int), (b : Int), word, full, at_, tries, item, stamp⟩) 76).alloc #[.int .u32 (a : Int), .int .i64 p, .slice A n c, .int .i64 (ns : Int), .int .i64 wo, .int .i64 qu, .int .i64 tr] 27).alloc #[.int .i64 0, .int .u32 0, .slice none 0 0, .int .i64 0, .int .u32 0, .bool false, .slice none 0 0, .slice none 0 0, .int .i64 0, .int .i64 0, .int .i64 0, .int .i64 0, .int .i64 0, .int .u64 0, .bool false, .slice none 0 0, .int .i64 0, .int .i64 0, .int .i64 0, .int .i64 0] 44
  try simp only [World.size_alloc] at L
  replace L := L.is 0 (opv hd0 sc0) rfl
  try dsimp only [nput] at L
  generalize (((w).alloc (.cells (opv ⟨A0, n0, c0, A1, n1, c1, A2, n2, c2, A3, n3, c3⟩ ⟨2, addr, err, aad, used, 8, shard, sought, (lf : Int), (b : Int), word, full, at_, tries, item, stamp⟩) 76)).alloc (.cells #[.int .u32 (a : Int), .int .i64 p, .slice A n c, .int .i64 (ns : Int), .int .i64 wo, .int .i64 qu, .int .i64 tr] 27)).alloc (.cells #[.int .i64 0, .int .u32 0, .slice none 0 0, .int .i64 0, .int .u32 0, .bool false, .slice none 0 0, .slice none 0 0, .int .i64 0, .int .i64 0, .int .i64 0, .int .i64 0, .int .i64 0, .int .u64 0, .bool false, .slice none 0 0, .int .i64 0, .int .i64 0, .int .i64 0, .int .i64 0] 44) = w1 at L ⊢
  generalize w.heap.size + 1 + 1 = gR at L ⊢
  generalize w.heap.size + 1 = gH at L ⊢
  generalize w.heap.size = gO at L ⊢
  have O_11 := L.at_ 2 11 rfl (v := .int .i64 (lf : Int)) rfl
  have O_z := L.lt 2 rfl
  go_wp2_with fail
  refine ((TLd _ (hU.below L.K)).out).mono ?_
  rintro e w' ⟨rfl, rfl⟩
  clear O_11 O_z
  have O_12 := L.at_ 2 12 rfl (v := .int .i64 (b : Int)) rfl
  have O_z := L.lt 2 rfl
  go_wp2_with fail
  refine ((TUs _).out).mono ?_
  rintro e w' ⟨rfl, rfl⟩
  clear O_12 O_z
  have O_0 := L.at_ 2 0 rfl (v := .int .i64 2) rfl
  have O_3 := L.at_ 2 3 rfl (v := .int .i64 err) rfl
  have O_8 := L.at_ 2 8 rfl (v := .int .i64 8) rfl
  have O_z := L.lt 2 rfl
  have O_f3 := L.fz 2 3 rfl
  have O_f8 := L.fz 2 8 rfl
  go_upto_region 8 with fail
  clear O_0 O_3 O_8 O_z O_f3 O_f8
  replace L := (((L.set 2 3 rfl (.int .i64 5)).set 2 8 rfl (.int .i64 0)).is 2 (opv ⟨A0, n0, c0, A1, n1, c1, A2, n2, c2, A3, n3, c3⟩ ⟨2, addr, 5, aad, used, 0, shard, sought, (lf : Int), (b : Int), word, full, at_, tries, item, stamp⟩) rfl)
  try dsimp only [nput] at L
  generalize ((w1).setCell ⟨gO, 3, none⟩ (.int .i64 5)).setCell ⟨gO, 8, none⟩ (.int .i64 0) = w2 at L ⊢
  replace L := L.drew
  refine wp_region_held_drew (S := fun w' => ∃ v_R : Array Value, v_R.size = 20 ∧ Loc w w' [(gR, 44, v_R), (gH, 27, #[.int .u32 (a : Int), .int .i64 p, .slice A n c, .int .i64 (ns : Int), .int .i64 wo, .int .i64 qu, .int .i64 tr]), (gO, 76, opv ⟨A0, n0, c0, A1, n1, c1, A2, n2, c2, A3, n3, c3⟩ ⟨2, addr, 5, aad, used, 0, shard, sought, (lf : Int), (b : Int), word, full, at_, tries, item, stamp⟩)] []) (by kernel_rfl) (⟨_, rfl, L⟩) (fun hHeld => ?_)
  generalize w2.drew = v3 at hHeld L ⊢
  refine wpAnyH_take (i := 0) (oi := ⟨some 36, _, _, _, _, _⟩) (v := .slice B m d) rfl (by kernel_rfl) (by kernel_rfl) (by kernel_rfl) (fun _ _ _ h => h) (Or.inl ⟨by rfl, ?_⟩) hHeld ?_
  · intro ww hS
    try dsimp only at hS
    go_simp
    try with_reducible rfl
    try omega
  try simp only [Act.put, List.setIfInBounds_toArray, List.set_cons_zero, List.set_cons_succ]
  refine wpAnyH_take (i := 1) (oi := ⟨some 37, _, _, _, _, _⟩) (v := .agg (opv ⟨A0, n0, c0, A1, n1, c1, A2, n2, c2, A3, n3, c3⟩ ⟨2, addr, 5, aad, used, 0, shard, sought, (lf : Int), (b : Int), word, full, at_, tries, item, stamp⟩)) rfl (by kernel_rfl) (by kernel_rfl) (by kernel_rfl) (fun _ _ _ h => h) (yieldsIf_load_row (by rfl) 76 (.tmp 3) rfl gO rfl 76 _ (0, 0) _ (fun _ hS => ((hS.choose_spec.2).bk_ 2 rfl)) Try.underlying76 rfl op2_sz) hHeld ?_
  try simp only [Act.put, List.setIfInBounds_toArray, List.set_cons_zero, List.set_cons_succ]
  refine wpAnyH_take (i := 2) (oi := ⟨some 38, _, _, _, _, _⟩) (v := .pointer (some ⟨gO, 8, none⟩)) rfl (by kernel_rfl) (by kernel_rfl) (by kernel_rfl) (fun _ _ _ h => h) (Or.inl ⟨by rfl, ?_⟩) hHeld ?_
  · intro ww hS
    try dsimp only at hS
    go_simp
    try with_reducible rfl
    try omega
  try simp only [Act.put, List.setIfInBounds_toArray, List.set_cons_zero, List.set_cons_succ]
  refine wpAnyH_take (i := 3) (oi := ⟨some 39, _, _, _, _, _⟩) (v := .int .i64 0) rfl (by kernel_rfl) (by kernel_rfl) (by kernel_rfl) (fun _ _ _ h => h) (Or.inl ⟨by rfl, ?_⟩) hHeld ?_
  · intro ww hS
    try dsimp only at hS
    have O_8 := (hS.choose_spec.2).at_ 2 8 rfl (v := .int .i64 0) rfl
    have O_z := (hS.choose_spec.2).lt 2 rfl
    go_simp
    try with_reducible rfl
    try omega
  try simp only [Act.put, List.setIfInBounds_toArray, List.set_cons_zero, List.set_cons_succ]
  refine wpAnyH_take (i := 4) (oi := ⟨some 40, _, _, _, _, _⟩) (v := .bool true) rfl (by kernel_rfl) (by kernel_rfl) (by kernel_rfl) (fun _ _ _ h => h) (Or.inl ⟨by rfl, ?_⟩) hHeld ?_
  · intro ww hS
    try dsimp only at hS
    go_simp
    try with_reducible rfl
    try omega
  try simp only [Act.put, List.setIfInBounds_toArray, List.set_cons_zero, List.set_cons_succ]
  refine wpAnyH_take (i := 5) (oi := ⟨some 6, _, _, _, _, _⟩) (v := .slice B m d) rfl (by kernel_rfl) (by kernel_rfl) (by kernel_rfl) (fun _ _ _ h => h) (Or.inl ⟨by rfl, ?_⟩) hHeld ?_
  · intro ww hS
    try dsimp only at hS
    go_simp
    try with_reducible rfl
    try omega
  try simp only [Act.put, List.setIfInBounds_toArray, List.set_cons_zero, List.set_cons_succ]
  refine wpAnyH_ready (rs := [6]) (by kernel_rfl) (by simp) ?_
  refine AllReadyH.cons (o := ⟨none, _, _, _, _, _⟩) rfl (fun K0 hK => ?_) AllReadyH.nil
  rw [if_pos (by rfl)]
  refine wp_store_row 44 (.tmp 7) (.tmp 37) rfl gR _ rfl rfl _ _ (L.bk_ 0 rfl) op_sz rfl (opv_one _ _) ?_
  replace L := L.row 0 rfl (opv ⟨A0, n0, c0, A1, n1, c1, A2, n2, c2, A3, n3, c3⟩ ⟨2, addr, 5, aad, used, 0, shard, sought, (lf : Int), (b : Int), word, full, at_, tries, item, stamp⟩)
  try dsimp only [nput] at L
  refine hK.out _ _ ⟨_, rfl, L⟩ (fun hHeld' => ?_)
  clear hHeld hK K0
  have hHeld := hHeld'
  clear hHeld'
  generalize v3.setRow gR (opv ⟨A0, n0, c0, A1, n1, c1, A2, n2, c2, A3, n3, c3⟩ ⟨2, addr, 5, aad, used, 0, shard, sought, (lf : Int), (b : Int), word, full, at_, tries, item, stamp⟩) = v4 at hHeld L ⊢
  try simp only [Act.put]
  refine wpAnyH_take (i := 7) (oi := ⟨some 8, _, _, _, _, _⟩) (v := .bool true) rfl (by kernel_rfl) (by kernel_rfl) (by kernel_rfl) (fun _ _ _ h => h) (Or.inl ⟨by rfl, ?_⟩) hHeld ?_
  · intro ww hS
    try dsimp only at hS
    go_simp
    try with_reducible rfl
    try omega
  try simp only [Act.put, List.setIfInBounds_toArray, List.set_cons_zero, List.set_cons_succ]
  refine wpAnyH_done (by kernel_rfl) ?_ _
  clear hHeld
  go_wp2
  refine bodyPost_ret (v := .tuple #[.slice B m d, .agg (opv ⟨A0, n0, c0, A1, n1, c1, A2, n2, c2, A3, n3, c3⟩ ⟨2, addr, 5, aad, used, 0, shard, sought, (lf : Int), (b : Int), word, full, at_, tries, item, stamp⟩), .bool true]) ?_ rfl ?_
  · exact results_tct (fn := Try.f59) Try.results59 _ _ gR _ _ (0, 0) _ rfl (L.bk_ 0 rfl) Try.underlying44 rfl op_sz
  exact ⟨_, _, _, rfl, hU.below L.K, hL.below L.K, fun k _ h => h, L.K⟩
set_option maxRecDepth 100000 in
set_option maxHeartbeats 2000000 in
theorem xf_ask (ha : a < 4294967296) (hM : Much a p M) (hE : EI a M zs o s) (hY : YI M zs ys) (hU : US w B m d ys) (hL : Lists lo w h ⟨xs, [], [], []⟩) (hx : xs.length ≤ 65536) (hlo : lo ≤ w.heap.size) (hph : s.phase = 8) (hk : s.kind = 5) :
    Calls Try.prog 59 #[.agg (opv h s), .agg #[.int .u32 (a : Int), .int .i64 p, .slice A n c, .int .i64 (ns : Int), .int .i64 wo, .int .i64 qu, .int .i64 tr], .slice B m d] w (RetXL lo (eS a M ys s) ⟨xs, [], [], []⟩ m (gC M ys s) (eB ys s) B w) := by
  have hml := hU.len
  have hyl := hY.len
  have hle := hE.le
  have hlf := hE.lf
  have hbt := hE.bt
  have gl9 := hE.fl
  have fb' := hE.fb
  have hx64 := gt_lt hU.fit (o / 32)
  have TLd := fun w (U : US w B m d ys) => Lib.hid (by have R := load_any U ((o / 32 : Nat) : Int); rw [ldI_nat] at R; exact R)
  have TUs := fun w => Lib.hid (used_any (gt ys (o / 32)) (o % 32) hx64 (by omega) w)
  obtain ⟨bq, hbq⟩ : ∃ bq, bq = (gt ys (o / 32)).testBit (o % 32) := ⟨_, rfl⟩
  rw [← hbq] at TUs
  obtain ⟨e1, e2⟩ := es_read (a := a) (M := M) (ys := ys) hph
  obtain ⟨x, hx2⟩ : ∃ x, x = gt ys (o / 32) := ⟨_, rfl⟩
  have e4 : eB ys s = true := by unfold eB; rw [if_pos hph, gl9, fb', hk]; rfl
  have e5 : xkS (gt ys s.leaf.toNat) s = qyS s bq := by unfold xkS; rw [gl9, fb', if_neg (by omega), hbq]
  rw [e1, e2, e4, e5]
  clear e1 e2 e4 e5
  simp only [← hx2] at TLd TUs
  obtain ⟨lf, hlf2⟩ : ∃ y, y = o / 32 := ⟨_, rfl⟩
  obtain ⟨b, hb2⟩ : ∃ y, y = o % 32 := ⟨_, rfl⟩
  rw [← hlf2] at hlf
  simp only [← hlf2] at TLd
  rw [← hb2] at hbt
  simp only [← hb2] at TUs
  clear hx2 hlf2 hb2 hE hY hyl hx64 gl9 fb' ha hM hle hml hbq
  rcases s with ⟨kind, addr, err, aad, used, phase, shard, sought, leaf, bit, word, full, at_, tries, item, stamp⟩
  rcases h with ⟨A0, n0, c0, A1, n1, c1, A2, n2, c2, A3, n3, c3⟩
  try dsimp only at *
  subst hph hk hlf hbt
  go_enter Try.func59, Try.ntmps59
  go_upto_region 1 with (fail)
  have L := Loc.start w
  replace L := (((L).alloc (opv ⟨A0, n0, c0, A1, n1, c1, A2, n2, c2, A3, n3, c3⟩ ⟨5, addr, err, aad, used, 8, shard, sought, (lf : Int), (b : Int), word, full, at_, tries, item, stamp⟩) 76).alloc #[.int .u32 (a : Int), .int .i64 p, .slice A n c, .int .i64 (ns : Int), .int .i64 wo, .int .i64 qu, .int .i64 tr] 27).alloc #[.int .i64 0, .int .u32 0, .slice none 0 0, .int .i64 0, .int .u32 0, .bool false, .slice none 0 0, .slice none 0 0, .int .i64 0, .int .i64 0, .int .i64 0, .int .i64 0, .int .i64 0, .int .u64 0, .bool false, .slice none 0 0, .int .i64 0, .int .i64 0, .int .i64 0, .int .i64 0] 44
  try simp only [World.size_alloc] at L
  replace L := L.is 0 (opv hd0 sc0) rfl
  try dsimp only [nput] at L
  generalize (((w).alloc (.cells (opv ⟨A0, n0, c0, A1, n1, c1, A2, n2, c2, A3, n3, c3⟩ ⟨5, addr, err, aad, used, 8, shard, sought, (lf : Int), (b : Int), word, full, at_, tries, item, stamp⟩) 76)).alloc (.cells #[.int .u32 (a : Int), .int .i64 p, .slice A n c, .int .i64 (ns : Int), .int .i64 wo, .int .i64 qu, .int .i64 tr] 27)).alloc (.cells #[.int .i64 0, .int .u32 0, .slice none 0 0, .int .i64 0, .int .u32 0, .bool false, .slice none 0 0, .slice none 0 0, .int .i64 0, .int .i64 0, .int .i64 0, .int .i64 0, .int .i64 0, .int .u64 0, .bool false, .slice none 0 0, .int .i64 0, .int .i64 0, .int .i64 0, .int .i64 0] 44) = w1 at L ⊢
  generalize w.heap.size + 1 + 1 = gR at L ⊢
  generalize w.heap.size + 1 = gH at L ⊢
  generalize w.heap.size = gO at L ⊢
  have O_11 := L.at_ 2 11 rfl (v := .int .i64 (lf : Int)) rfl
  have O_z := L.lt 2 rfl
  go_wp2_with fail
  refine ((TLd _ (hU.below L.K)).out).mono ?_
  rintro e w' ⟨rfl, rfl⟩
  clear O_11 O_z
  have O_12 := L.at_ 2 12 rfl (v := .int .i64 (b : Int)) rfl
  have O_z := L.lt 2 rfl
  go_wp2_with fail
  refine ((TUs _).out).mono ?_
  rintro e w' ⟨rfl, rfl⟩
  clear O_12 O_z
  have O_0 := L.at_ 2 0 rfl (v := .int .i64 5) rfl
  have O_5 := L.at_ 2 5 rfl (v := .bool used) rfl
  have O_8 := L.at_ 2 8 rfl (v := .int .i64 8) rfl
  have O_z := L.lt 2 rfl
  have O_f5 := L.fz 2 5 rfl
  have O_f8 := L.fz 2 8 rfl
  go_upto_region 8 with fail
  clear O_0 O_5 O_8 O_z O_f5 O_f8
  replace L := (((L.set 2 5 rfl (.bool bq)).set 2 8 rfl (.int .i64 0)).is 2 (opv ⟨A0, n0, c0, A1, n1, c1, A2, n2, c2, A3, n3, c3⟩ ⟨5, addr, err, aad, bq, 0, shard, sought, (lf : Int), (b : Int), word, full, at_, tries, item, stamp⟩) rfl)
  try dsimp only [nput] at L
  generalize ((w1).setCell ⟨gO, 5, none⟩ (.bool bq)).setCell ⟨gO, 8, none⟩ (.int .i64 0) = w2 at L ⊢
  replace L := L.drew
  refine wp_region_held_drew (S := fun w' => ∃ v_R : Array Value, v_R.size = 20 ∧ Loc w w' [(gR, 44, v_R), (gH, 27, #[.int .u32 (a : Int), .int .i64 p, .slice A n c, .int .i64 (ns : Int), .int .i64 wo, .int .i64 qu, .int .i64 tr]), (gO, 76, opv ⟨A0, n0, c0, A1, n1, c1, A2, n2, c2, A3, n3, c3⟩ ⟨5, addr, err, aad, bq, 0, shard, sought, (lf : Int), (b : Int), word, full, at_, tries, item, stamp⟩)] []) (by kernel_rfl) (⟨_, rfl, L⟩) (fun hHeld => ?_)
  generalize w2.drew = v3 at hHeld L ⊢
  refine wpAnyH_take (i := 0) (oi := ⟨some 36, _, _, _, _, _⟩) (v := .slice B m d) rfl (by kernel_rfl) (by kernel_rfl) (by kernel_rfl) (fun _ _ _ h => h) (Or.inl ⟨by rfl, ?_⟩) hHeld ?_
  · intro ww hS
    try dsimp only at hS
    go_simp
    try with_reducible rfl
    try omega
  try simp only [Act.put, List.setIfInBounds_toArray, List.set_cons_zero, List.set_cons_succ]
  refine wpAnyH_take (i := 1) (oi := ⟨some 37, _, _, _, _, _⟩) (v := .agg (opv ⟨A0, n0, c0, A1, n1, c1, A2, n2, c2, A3, n3, c3⟩ ⟨5, addr, err, aad, bq, 0, shard, sought, (lf : Int), (b : Int), word, full, at_, tries, item, stamp⟩)) rfl (by kernel_rfl) (by kernel_rfl) (by kernel_rfl) (fun _ _ _ h => h) (yieldsIf_load_row (by rfl) 76 (.tmp 3) rfl gO rfl 76 _ (0, 0) _ (fun _ hS => ((hS.choose_spec.2).bk_ 2 rfl)) Try.underlying76 rfl op2_sz) hHeld ?_
  try simp only [Act.put, List.setIfInBounds_toArray, List.set_cons_zero, List.set_cons_succ]
  refine wpAnyH_take (i := 2) (oi := ⟨some 38, _, _, _, _, _⟩) (v := .pointer (some ⟨gO, 8, none⟩)) rfl (by kernel_rfl) (by kernel_rfl) (by kernel_rfl) (fun _ _ _ h => h) (Or.inl ⟨by rfl, ?_⟩) hHeld ?_
  · intro ww hS
    try dsimp only at hS
    go_simp
    try with_reducible rfl
    try omega
  try simp only [Act.put, List.setIfInBounds_toArray, List.set_cons_zero, List.set_cons_succ]
  refine wpAnyH_take (i := 3) (oi := ⟨some 39, _, _, _, _, _⟩) (v := .int .i64 0) rfl (by kernel_rfl) (by kernel_rfl) (by kernel_rfl) (fun _ _ _ h => h) (Or.inl ⟨by rfl, ?_⟩) hHeld ?_
  · intro ww hS
    try dsimp only at hS
    have O_8 := (hS.choose_spec.2).at_ 2 8 rfl (v := .int .i64 0) rfl
    have O_z := (hS.choose_spec.2).lt 2 rfl
    go_simp
    try with_reducible rfl
    try omega
  try simp only [Act.put, List.setIfInBounds_toArray, List.set_cons_zero, List.set_cons_succ]
  refine wpAnyH_take (i := 4) (oi := ⟨some 40, _, _, _, _, _⟩) (v := .bool true) rfl (by kernel_rfl) (by kernel_rfl) (by kernel_rfl) (fun _ _ _ h => h) (Or.inl ⟨by rfl, ?_⟩) hHeld ?_
  · intro ww hS
    try dsimp only at hS
    go_simp
    try with_reducible rfl
    try omega
  try simp only [Act.put, List.setIfInBounds_toArray, List.set_cons_zero, List.set_cons_succ]
  refine wpAnyH_take (i := 5) (oi := ⟨some 6, _, _, _, _, _⟩) (v := .slice B m d) rfl (by kernel_rfl) (by kernel_rfl) (by kernel_rfl) (fun _ _ _ h => h) (Or.inl ⟨by rfl, ?_⟩) hHeld ?_
  · intro ww hS
    try dsimp only at hS
    go_simp
    try with_reducible rfl
    try omega
  try simp only [Act.put, List.setIfInBounds_toArray, List.set_cons_zero, List.set_cons_succ]
  refine wpAnyH_ready (rs := [6]) (by kernel_rfl) (by simp) ?_
  refine AllReadyH.cons (o := ⟨none, _, _, _, _, _⟩) rfl (fun K0 hK => ?_) AllReadyH.nil
  rw [if_pos (by rfl)]
  refine wp_store_row 44 (.tmp 7) (.tmp 37) rfl gR _ rfl rfl _ _ (L.bk_ 0 rfl) op_sz rfl (opv_one _ _) ?_
  replace L := L.row 0 rfl (opv ⟨A0, n0, c0, A1, n1, c1, A2, n2, c2, A3, n3, c3⟩ ⟨5, addr, err, aad, bq, 0, shard, sought, (lf : Int), (b : Int), word, full, at_, tries, item, stamp⟩)
  try dsimp only [nput] at L
  refine hK.out _ _ ⟨_, rfl, L⟩ (fun hHeld' => ?_)
  clear hHeld hK K0
  have hHeld := hHeld'
  clear hHeld'
  generalize v3.setRow gR (opv ⟨A0, n0, c0, A1, n1, c1, A2, n2, c2, A3, n3, c3⟩ ⟨5, addr, err, aad, bq, 0, shard, sought, (lf : Int), (b : Int), word, full, at_, tries, item, stamp⟩) = v4 at hHeld L ⊢
  try simp only [Act.put]
  refine wpAnyH_take (i := 7) (oi := ⟨some 8, _, _, _, _, _⟩) (v := .bool true) rfl (by kernel_rfl) (by kernel_rfl) (by kernel_rfl) (fun _ _ _ h => h) (Or.inl ⟨by rfl, ?_⟩) hHeld ?_
  · intro ww hS
    try dsimp only at hS
    go_simp
    try with_reducible rfl
    try omega
  try simp only [Act.put, List.setIfInBounds_toArray, List.set_cons_zero, List.set_cons_succ]
  refine wpAnyH_done (by kernel_rfl) ?_ _
  clear hHeld
  go_wp2
  refine bodyPost_ret (v := .tuple #[.slice B m d, .agg (opv ⟨A0, n0, c0, A1, n1, c1, A2, n2, c2, A3, n3, c3⟩ ⟨5, addr, err, aad, bq, 0, shard, sought, (lf : Int), (b : Int), word, full, at_, tries, item, stamp⟩), .bool true]) ?_ rfl ?_
  · exact results_tct (fn := Try.f59) Try.results59 _ _ gR _ _ (0, 0) _ rfl (L.bk_ 0 rfl) Try.underlying44 rfl op_sz
  exact ⟨_, _, _, rfl, hU.below L.K, hL.below L.K, fun k _ h => h, L.K⟩
set_option maxRecDepth 100000 in
set_option maxHeartbeats 2000000 in
theorem xs_to {s2 : Sc} {y2 : List Nat} {b2 : Bool} (hff : f = 59 ∨ f = 60 ∨ f = 61 ∨ f = 62) (hm : 0 < m) (hU : US w B m d ys) (hL : Lists lo w h l) (h0 : h.n0 ≤ 65536) (h1 : h.n1 ≤ 65536) (h2 : h.n2 ≤ 65536) (h3 : h.n3 ≤ 65536)
    (TP : ∀ w h, Hid (Calls Try.prog 38 #[.agg (opv h s)] w fun e w' => e = .returned (.func (.func f) #[.agg (opv h s)] #[]) ∧ Below w.heap.size w w'))
    (TK : ∀ w lo h, lo ≤ w.heap.size → US w B m d ys → Lists lo w h l → Hid (Calls Try.prog f #[.agg (opv h s), .agg #[.int .u32 (a : Int), .int .i64 p, .slice A n c, .int .i64 (ns : Int), .int .i64 wo, .int .i64 qu, .int .i64 tr], .slice B m d] w (RetXL lo s2 l m y2 b2 B w))) :
    Calls Try.prog 13 #[.agg #[.int .u32 (a : Int), .int .i64 p, .slice A n c, .int .i64 (ns : Int), .int .i64 wo, .int .i64 qu, .int .i64 tr], .slice B m d, .agg (opv h s)] w (RetX s2 l m y2 b2 B w) := by
  have hm0 : 0 < m := hm
  have TOwn := fun w (L : Lists lo w h l) => Lib.hid (ownx (s := s) L (by omega) (by omega) (by omega) (by omega))
  go_enter Try.func13, Try.ntmps13
  go_upto_region 1 with (fail)
  have L := Loc.start w
  replace L := (((L).alloc #[.int .u32 (a : Int), .int .i64 p, .slice A n c, .int .i64 (ns : Int), .int .i64 wo, .int .i64 qu, .int .i64 tr] 27).alloc (opv h s) 44).alloc #[.int .i64 0, .int .u32 0, .slice none 0 0, .int .i64 0, .int .u32 0, .bool false, .slice none 0 0, .slice none 0 0, .int .i64 0, .int .i64 0, .int .i64 0, .int .i64 0, .int .i64 0, .int .u64 0, .bool false, .slice none 0 0, .int .i64 0, .int .i64 0, .int .i64 0, .int .i64 0] 44
  try simp only [World.size_alloc] at L
  replace L := L.is 0 (opv hd0 sc0) rfl
  try dsimp only [nput] at L
  generalize (((w).alloc (.cells #[.int .u32 (a : Int), .int .i64 p, .slice A n c, .int .i64 (ns : Int), .int .i64 wo, .int .i64 qu, .int .i64 tr] 27)).alloc (.cells (opv h s) 44)).alloc (.cells #[.int .i64 0, .int .u32 0, .slice none 0 0, .int .i64 0, .int .u32 0, .bool false, .slice none 0 0, .slice none 0 0, .int .i64 0, .int .i64 0, .int .i64 0, .int .i64 0, .int .i64 0, .int .u64 0, .bool false, .slice none 0 0, .int .i64 0, .int .i64 0, .int .i64 0, .int .i64 0] 44) = w1 at L ⊢
  generalize w.heap.size + 1 + 1 = gR at L ⊢
  generalize w.heap.size + 1 = gO at L ⊢
  generalize w.heap.size = gH at L ⊢
  go_wp2_with (refine wpList_load_row rfl 44 (.tmp 5) rfl gO rfl _ _ (0, 0) _ (L.bk_ 1 rfl) Try.underlying44 rfl op_sz ?_)
  have KS := L.K.size
  have LbO := L.gs
  refine ((TOwn _ (hL.below L.K)).out).mono ?_
  rintro e w2 ⟨h3, rfl, L', K'⟩
  have Lb := L.lts
  replace L := L.over K'
  replace L := L.lists Lb L'
  clear Lb
  try dsimp only [lF, List.cons_append, List.nil_append] at L
  clear L'
  have hlo3 := K'.size
  generalize w1.heap.size = lo3 at L LbO KS hlo3
  go_wp2_with fail
  have KP := L.K.size
  refine ((TP _ h3).out).mono ?_
  rintro e w3 ⟨rfl, K'⟩
  replace L := L.over K'
  have hlo4 := Nat.le_trans hlo3 K'.size
  go_upto_region 2 with (fail)
  rcases hff with rfl | rfl | rfl | rfl
  all_goals (
    go_wp2_with (refine wpList_load_row rfl 27 (.tmp 3) rfl gH rfl _ _ (0, 0) _ (L.bk_ 2 rfl) Try.underlying27 rfl cf_sz ?_)
    have KS2 := L.K.size
    refine ((TK _ lo3 h3 hlo4 (hU.below L.K) (L.lists_at 0 rfl)).out).mono ?_
    rintro e w4 ⟨h4, B2, d2, rfl, U, L', hA, K'⟩
    have Lb := L.lts
    replace L := L.over K'
    replace L := L.us_av (fun i b e => hA b.1 (Lb i b e) (hU.apart0 hm0 L i b e)) U
    replace L := L.lists' LbO L'
    clear Lb
    try dsimp only [lF, List.cons_append, List.nil_append] at L
    clear U L'
    go_wp2_with (refine wpList_store_row rfl 44 (.tmp 7) (.tmp 18) rfl gR _ rfl rfl _ _ (L.bk_ 0 rfl) op_sz rfl (opv_one _ _) ?_)
    replace L := (L.row 0 rfl (opv h4 s2))
    try dsimp only [nput] at L
    generalize (w4).setRow gR (opv h4 s2) = w5 at L ⊢
    refine bodyPost_ret (v := .tuple #[.slice B2 m d2, .agg (opv h4 s2), .bool b2]) ?_ rfl ?_
    · exact results_tct (fn := Try.f13) Try.results13 _ _ gR _ _ (0, 0) _ rfl (L.bk_ 0 rfl) Try.underlying44 rfl op_sz
    exact ⟨_, _, _, rfl, L.us_ 4 rfl, (L.lists_at 0 rfl).lower_ KS, fun k hk => hA k (Nat.lt_of_lt_of_le hk KS2), L.K⟩)
theorem xs_any (ha : a < 4294967296) (hM : Much a p M) (hE : EI a M zs o s) (hY : YI M zs ys) (hU : US w B m d ys) (hL : Lists lo w h ⟨xs, [], [], []⟩) (hx : xs.length ≤ 65536) :
    Calls Try.prog 13 #[.agg #[.int .u32 (a : Int), .int .i64 p, .slice A n c, .int .i64 (ns : Int), .int .i64 wo, .int .i64 qu, .int .i64 tr], .slice B m d, .agg (opv h s)] w (RetX (eS a M ys s) ⟨xs, [], [], []⟩ m (gC M ys s) (eB ys s) B w) := by
  have hm0 : 0 < m := by have := hU.len; have := hY.len; omega
  obtain ⟨z0, z1, z2, z3⟩ := hL.emp_
  simp only [List.length_nil] at z1 z2 z3
  dsimp only at z0
  rcases hE.ph with ⟨q, _⟩ | ⟨q, _⟩ | ⟨q | q, _⟩ | ⟨q, _⟩
  · refine xs_to (f := 59) (by decide) hm0 hU hL (by omega) (by omega) (by omega) (by omega) (fun w h => Lib.hid (xph8 q)) (fun w lo h hlo U L => Lib.hid ?_)
    rcases hE.kd with hk | hk
    · cases hb : (gt ys (o / 32)).testBit (o % 32) with
      | false => exact xf_take ha hM hE hY U L hx hlo q hk hb
      | true => exact xf_used ha hM hE hY U L hx hlo q hk hb
    · exact xf_ask ha hM hE hY U L hx hlo q hk
  · exact xs_to (f := 60) (by decide) hm0 hU hL (by omega) (by omega) (by omega) (by omega) (fun w h => Lib.hid (xph3 q)) (fun w lo h hlo U L => Lib.hid (xf_claim ha hM hE hY U L hx hlo q))
  · exact xs_to (f := 61) (by decide) hm0 hU hL (by omega) (by omega) (by omega) (by omega) (fun w h => Lib.hid (xph4 q)) (fun w lo h hlo U L => Lib.hid (xf_mark ha hM hE hY U L hx hlo (.inl q)))
  · exact xs_to (f := 61) (by decide) hm0 hU hL (by omega) (by omega) (by omega) (by omega) (fun w h => Lib.hid (xph5 q)) (fun w lo h hlo U L => Lib.hid (xf_mark ha hM hE hY U L hx hlo (.inr q)))
  · exact xs_to (f := 62) (by decide) hm0 hU hL (by omega) (by omega) (by omega) (by omega) (fun w h => Lib.hid (xph0 q)) (fun w lo h hlo U L => Lib.hid (xf_stay ha hM hE hY U L hx hlo q))
end
end Go.Proofs.Ytacgjaohfcoigaa
