/-
  What the functions that these laws call answer, and what follows of it; conditions: those that each theorem names. In this file: ModelMath, ModelRow, ModelAddrs, ModelRefs, ModelRefs2, ModelNew, ModelUses, GrantRun, GrantAwake.
-/
import Derived.Test.YtghecdccdmeooaaGreatGrA14
import Derived.Lib.AppendZerosOnto
import Derived.Lib.Walk
/-
  Sets as rising lists of integers: an offset put in, or taken away, is told by what is in alone; where an offset stands; when a list is a set that may be, and all of it; the set that a test tells. No program in it.
-/
namespace Go.Proofs.YtghecdccdmeooaaGreat
set_option maxRecDepth 100000
def Ris (xs : List Int) : Prop := xs.Pairwise (· < ·)
theorem Ris.ext {xs ys : List Int} (hx : Ris xs) (hy : Ris ys) (h : ∀ z, z ∈ xs ↔ z ∈ ys) : xs = ys := by
  induction xs generalizing ys with
  | nil =>
    cases ys with
    | nil => rfl
    | cons y t => have := (h y).2 (by simp); cases this
  | cons x r ih =>
    cases ys with
    | nil => have := (h x).1 (by simp); cases this
    | cons y t =>
      obtain ⟨hx1, hx2⟩ := List.pairwise_cons.1 hx
      obtain ⟨hy1, hy2⟩ := List.pairwise_cons.1 hy
      have e : x = y := by
        have h1 := (h x).1 (by simp)
        have h2 := (h y).2 (by simp)
        rcases List.mem_cons.1 h1 with h1 | h1
        · exact h1
        · rcases List.mem_cons.1 h2 with h2 | h2
          · exact h2.symm
          · have := hx1 _ h2
            have := hy1 _ h1
            omega
      subst e
      congr 1
      refine ih hx2 hy2 fun z => ⟨fun hz => ?_, fun hz => ?_⟩
      · rcases List.mem_cons.1 ((h z).1 (List.mem_cons_of_mem _ hz)) with e | g
        · have := hx1 _ hz; omega
        · exact g
      · rcases List.mem_cons.1 ((h z).2 (List.mem_cons_of_mem _ hz)) with e | g
        · have := hy1 _ hz; omega
        · exact g
theorem Ris.lt {xs : List Int} (h : Ris xs) {i j : Nat} (hij : i < j) (hj : j < xs.length) : gi xs i < gi xs j := by
  rw [gi_at (by omega), gi_at hj]
  exact List.pairwise_iff_getElem.1 h i j (by omega) hj hij
theorem Ris.nil : Ris [] := List.Pairwise.nil
/-- Those below x, and those above it. -/
def lo_ (xs : List Int) (x : Int) : List Int := xs.filter fun y => decide (y < x)
def hi_ (xs : List Int) (x : Int) : List Int := xs.filter fun y => decide (x < y)
def ins (xs : List Int) (x : Int) : List Int := lo_ xs x ++ x :: hi_ xs x
def del (xs : List Int) (x : Int) : List Int := xs.filter fun y => decide (y ≠ x)
def at_ (xs : List Int) (x : Int) : Nat := (lo_ xs x).length
theorem mem_lo {xs : List Int} {x z : Int} : z ∈ lo_ xs x ↔ z ∈ xs ∧ z < x := by unfold lo_; simp
theorem mem_hi {xs : List Int} {x z : Int} : z ∈ hi_ xs x ↔ z ∈ xs ∧ x < z := by unfold hi_; simp
theorem mem_ins {xs : List Int} {x z : Int} : z ∈ ins xs x ↔ z = x ∨ z ∈ xs := by
  unfold ins
  rw [List.mem_append, List.mem_cons, mem_lo, mem_hi]
  constructor
  · rintro (⟨h, _⟩ | h | ⟨h, _⟩)
    · exact .inr h
    · exact .inl h
    · exact .inr h
  · rintro (h | h)
    · exact .inr (.inl h)
    · rcases Int.lt_trichotomy z x with g | g | g
      · exact .inl ⟨h, g⟩
      · exact .inr (.inl g)
      · exact .inr (.inr ⟨h, g⟩)
theorem Ris.lo {xs : List Int} (h : Ris xs) (x : Int) : Ris (lo_ xs x) := List.Pairwise.filter _ h
theorem Ris.hi {xs : List Int} (h : Ris xs) (x : Int) : Ris (hi_ xs x) := List.Pairwise.filter _ h
theorem Ris.del {xs : List Int} (h : Ris xs) (x : Int) : Ris (del xs x) := List.Pairwise.filter _ h
theorem Ris.two {xs ys : List Int} (hx : Ris xs) (hy : Ris ys) (h : ∀ a ∈ xs, ∀ b ∈ ys, a < b) : Ris (xs ++ ys) := List.pairwise_append.2 ⟨hx, hy, h⟩
theorem Ris.cons {x : Int} {ys : List Int} (hy : Ris ys) (h : ∀ b ∈ ys, x < b) : Ris (x :: ys) := List.pairwise_cons.2 ⟨h, hy⟩
theorem Ris.ins {xs : List Int} (h : Ris xs) (x : Int) : Ris (ins xs x) := by
  refine Ris.two (h.lo x) (Ris.cons (h.hi x) fun b hb => (mem_hi.1 hb).2) fun a ha b hb => ?_
  have h1 := (mem_lo.1 ha).2
  rcases List.mem_cons.1 hb with rfl | hb
  · exact h1
  · have := (mem_hi.1 hb).2; omega
theorem ins_in {xs : List Int} (h : Ris xs) {x : Int} (hx : hasB xs x = true) : ins xs x = xs :=
  (h.ins x).ext h fun z => by
    rw [mem_ins]
    have := of_decide_eq_true hx
    constructor
    · rintro (rfl | g)
      · exact this
      · exact g
    · exact .inr
theorem hasB_iff {xs : List Int} {x : Int} : hasB xs x = true ↔ x ∈ xs := by unfold hasB; simp
theorem len_ins {xs : List Int} (x : Int) : (ins xs x).length ≤ xs.length + 1 := by
  have key : ∀ ys : List Int, (lo_ ys x).length + (hi_ ys x).length ≤ ys.length := by
    intro ys
    induction ys with
    | nil => simp [lo_, hi_]
    | cons y t ih =>
      unfold lo_ hi_ at ih ⊢
      rw [List.filter_cons, List.filter_cons]
      by_cases h1 : y < x
      · rw [if_pos (by simpa using h1), if_neg (by simp; omega)]; simp only [List.length_cons]; omega
      · rw [if_neg (by simpa using h1)]
        split
        · simp only [List.length_cons]; omega
        · simp only [List.length_cons]; omega
  have := key xs
  unfold ins
  rw [List.length_append, List.length_cons]
  omega
/-- Are all that aren't reserved in it? -/
def fullB (M : Nat) (hs xs : List Int) : Bool := (List.range M).all fun i => hasB hs i || hasB xs i
theorem fullB_iff {M : Nat} {hs xs : List Int} : fullB M hs xs = true ↔ ∀ i : Nat, i < M → hasB hs i = true ∨ hasB xs i = true := by
  unfold fullB
  simp
/-- The set that a test tells, below k. -/
def os (f : Nat → Bool) : Nat → List Int
  | 0 => []
  | k + 1 => os f k ++ (if f k = true then [(k : Int)] else [])
theorem os_yes {f : Nat → Bool} {k : Nat} (h : f k = true) : os f (k + 1) = os f k ++ [(k : Int)] := by rw [os, if_pos h]
theorem os_no {f : Nat → Bool} {k : Nat} (h : f k = false) : os f (k + 1) = os f k := by rw [os, h]; simp
theorem mem_os {f : Nat → Bool} {k : Nat} {z : Int} : z ∈ os f k ↔ ∃ i : Nat, i < k ∧ f i = true ∧ z = (i : Int) := by
  induction k with
  | zero => exact ⟨fun h => (by cases h), fun ⟨i, hi, _⟩ => by omega⟩
  | succ k ih =>
    rw [os, List.mem_append, ih]
    constructor
    · rintro (⟨i, h1, h2, h3⟩ | h)
      · exact ⟨i, by omega, h2, h3⟩
      · split at h
        · rename_i e
          exact ⟨k, by omega, e, by simpa using h⟩
        · cases h
    · rintro ⟨i, h1, h2, h3⟩
      rcases Nat.lt_or_ge i k with g | g
      · exact .inl ⟨i, g, h2, h3⟩
      · obtain rfl : i = k := by omega
        rw [if_pos h2]
        exact .inr (by simpa using h3)
theorem ris_os (f : Nat → Bool) (k : Nat) : Ris (os f k) := by
  induction k with
  | zero => exact Ris.nil
  | succ k ih =>
    rw [os]
    refine Ris.two ih ?_ ?_
    · split
      · exact List.pairwise_singleton _ _
      · exact Ris.nil
    · intro a ha b hb
      obtain ⟨i, h1, _, rfl⟩ := mem_os.1 ha
      split at hb
      · have : b = (k : Int) := by simpa using hb
        omega
      · cases hb
theorem len_os (f : Nat → Bool) (k : Nat) : (os f k).length ≤ k := by
  induction k with
  | zero => exact Nat.le_refl _
  | succ k ih =>
    rw [os, List.length_append]
    split
    · simp; omega
    · simp; omega
theorem os_congr {f g : Nat → Bool} {k m : Nat} (h : ∀ i, (i < k ∧ f i = true) ↔ (i < m ∧ g i = true)) : os f k = os g m :=
  (ris_os f k).ext (ris_os g m) fun z => by
    rw [mem_os, mem_os]
    constructor
    · rintro ⟨i, h1, h2, h3⟩
      have := (h i).1 ⟨h1, h2⟩
      exact ⟨i, this.1, this.2, h3⟩
    · rintro ⟨i, h1, h2, h3⟩
      have := (h i).2 ⟨h1, h2⟩
      exact ⟨i, this.1, this.2, h3⟩
/-- Which offsets are used: bit set, not reserved. -/
def uf (hs : List Int) (ys : List Nat) (i : Nat) : Bool := (gt ys (i / 32)).testBit (i % 32) && !hasB hs (i : Int)
end Go.Proofs.YtghecdccdmeooaaGreat

/-
  Rows of integers of the call's own: one more appended, a list appended, one made by appending where there is no room. Conditions: at most 65536 numbers.
-/
namespace Go.Proofs.YtghecdccdmeooaaGreat
set_option maxRecDepth 100000
open Go.RowKit
theorem int_info : (Tryz.prog.info? 3).map (fun i => (i.zero, i.size, i.bytes)) = some (some (Value.int .i64 0), 1, 8) := by kernel_rfl
section
variable {k : IntKind} {t : TypeId} {w w' : World} {base n c : Nat} {A : Option Addr} {v : Value} {xs : List Int}
end
section
variable {P : Program} {k : IntKind} {t e : TypeId} {i : TypeInfo}
/-- append onto a row of the call's own, whatever its numbers' bytes. -/
theorem run_app {w : World} {base lo : Nat} {B : Option Addr} {m d : Nat} {ys : List Int} {A : Option Addr} {n c : Nat} {xs : List Int} (ht : P.underlying t = some (.slice e)) (hi : P.info? e = some i) (hz : i.zero = some (.int k 0)) (hsize : i.size = 1) (hby : i.bytes ≤ 8)
    (hown : Ri k e w base (.slice B m d) m ys) (h : IS k lo w A n c xs) (hn : m + n ≤ 65536) (hbase : base ≤ w.heap.size) (ty : TypeId) :
    ∃ A' c' w', (Builtin.append_ #[t, t] ty #[.slice B m d, .slice A n c]).run P w = .ok (.slice A' (m + n) c') w' ∧ Ri k e w' base (.slice A' (m + n) c') (m + n) (ys ++ xs) ∧ Below base w w' := by
  have hl := h.len
  rcases A with _ | ad
  · obtain rfl := h.nil_ rfl
    obtain rfl : n = 0 := by have := h.cap; omega
    obtain rfl : xs = [] := List.eq_nil_of_length_eq_zero hl
    have hr := run_append_owned_none (P := P) w base t ty e i 1 ht hi _ m (ys.map (iv k)) hown
    exact ⟨B, d, w, hr, by rw [List.append_nil]; exact hown, Below.refl _ _⟩
  · have hcells : ∀ j u, (xs.map (iv k))[j]? = some u → w.cell? (ad.add j) = some u := by
      intro j u hu
      rcases Nat.eq_zero_or_pos n with h0 | h0
      · subst h0
        obtain rfl : xs = [] := List.eq_nil_of_length_eq_zero hl
        simp at hu
      · obtain ⟨ad', e', hc⟩ := h.src h0
        injection e' with e'
        subst e'
        exact hc j u hu
    have hb : (m + n) * i.bytes ≤ 140737488355328 := Nat.le_trans (Nat.mul_le_mul hn hby) (by omega)
    obtain ⟨v', w', hrun, h2, h3, _, h5⟩ := run_append_own_at (P := P) w base t ty e i _ 1 i.bytes ht hi hz hsize rfl rfl (by omega) _ m (ys.map (iv k)) hown ad n c (xs.map (iv k)) (by simp [hl]) hcells (iv_one k xs) (by unfold maxLen; omega) hb hbase
    rw [← List.map_append] at h2
    obtain ⟨A', c', rfl, _⟩ := IS.of_own h2
    exact ⟨A', c', w', hrun, h2, (Below.refl _ _).grown h3 hbase (own_ge hown)⟩
/-- append of one number that has just been laid. -/
theorem run_app1 {w : World} {base : Nat} {B : Option Addr} {m d : Nat} {ys : List Int} {x : Int} (ht : P.underlying t = some (.slice e)) (hi : P.info? e = some i) (hz : i.zero = some (.int k 0)) (hsize : i.size = 1) (hby : i.bytes ≤ 8)
    (hown : Ri k e w base (.slice B m d) m ys) (hn : m + 1 ≤ 65536) (hbase : base ≤ w.heap.size) (ty : TypeId) :
    ∃ A' c' w', (Builtin.append_ #[t, t] ty #[.slice B m d, .slice (some ⟨w.heap.size, 0, none⟩) 1 1]).run P (w.alloc (.cells #[.int k x] e)) = .ok (.slice A' (m + 1) c') w' ∧ Ri k e w' base (.slice A' (m + 1) c') (m + 1) (ys ++ [x]) ∧ Below base w w' := by
  have K0 := below_alloc w (.cells #[.int k x] e)
  have hs := gone (k := k) (w := w.alloc (.cells #[.int k x] e)) (x := x) (g := w.heap.size) (cell_new w _ _) (by unfold maxLen; omega)
  obtain ⟨A', c', w', hr, O, G⟩ := run_app ht hi hz hsize hby (hown.below K0) hs hn (Nat.le_trans hbase K0.size) ty
  exact ⟨A', c', w', hr, O, (K0.mono hbase).trans G⟩
end
end Go.Proofs.YtghecdccdmeooaaGreat

/-
  What Addrs of package model, and the document's, answer of a set that may be: its addresses; the program's lie in new memory; nothing that was there is otherwise. Conditions: offsets from 0 to 65536.
-/
namespace Go.Proofs.YtghecdccdmeooaaGreat
set_option maxRecDepth 100000
open Go.RowKit
/-- The block g is just these numbers. -/
def Bi (k : IntKind) (w : World) (g : Nat) (t : TypeId) (xs : List Int) : Prop := Bk w g t (xs.map (iv k)).toArray
section
variable {k : IntKind} {w w' : World} {g : Nat} {t : TypeId} {xs : List Int}
theorem Bi.cell (h : Bi k w g t xs) {i : Nat} (hi : i < xs.length) : w.cell? ⟨g, i, none⟩ = some (.int k (gi xs i)) := by
  refine Bk.at_ h i ?_
  rw [gi_at hi]
  simp [iv, hi]
theorem Bi.below (h : Bi k w g t xs) (K : Below w.heap.size w w') : Bi k w' g t xs := Bk.below h K
theorem Bi.set_ (h : Bi k w g t xs) (i : Nat) (v : Int) : Bi k (w.setCell ⟨g, i, none⟩ (.int k v)) g t (xs.set i v) := by
  have := Bk.set_ h i (.int k v)
  unfold Bi
  rw [List.map_set]
  simpa [iv] using this
theorem Bi.is {n : Nat} (h : Bi k w g t xs) (hn : xs.length = n) (hm : n ≤ 65536) : IS k 0 w (some ⟨g, 0, none⟩) n n xs :=
  ⟨hn, Nat.le_refl _, by unfold maxLen; omega, (fun e => by cases e), fun _ => ⟨g, 0, rfl, Nat.zero_le _, Bk.lt h, fun j hj => by rw [Nat.zero_add]; exact h.cell (by omega)⟩⟩
theorem Bi.of_made {base n : Nat} (h : w.ownsRow base t 1 (.slice (some ⟨g, 0, none⟩) n n) n (madeCells (Value.int k 0).cells (n * 1)).toList) : Bi k w g t (List.replicate n 0) := by
  rcases h.2 with ⟨hv, _⟩ | ⟨g', cap, cur, hv, hb, hh, hnc, hcm, hcs, ht⟩
  · cases hv
  · injection hv with h1 h2 h3
    injection h1 with h1
    injection h1 with h1
    subst h1; subst h3
    unfold Bi Bk
    rw [hh]
    have e : cur.toList = (madeCells (Value.int k 0).cells (n * 1)).toList := by
      rw [← ht, List.take_of_length_le (by simp; omega)]
    have e2 : (madeCells (Value.int k 0).cells (n * 1)).toList = (List.replicate n 0).map (iv k) := by
      simp only [madeCells, Value.cells, iv, Nat.mul_one, Array.toList_map, Array.toList_range, List.map_replicate]
      apply List.ext_getElem (by simp)
      intro i h1 h2
      have e1 : i % 1 = 0 := by omega
      simp [e1]
    have e3 : cur = ((List.replicate n 0).map (iv k)).toArray := by rw [← e2, ← e]
    rw [e3]
end
/-- An offset's address. -/
def ad (a : Nat) (x : Int) : Int := ((a + x.toNat) % 4294967296 : Nat)
def ads (a : Nat) (xs : List Int) : List Int := xs.map (ad a)
section
variable {w : World} {lo a M : Nat} {p sh wo qu tr : Int} {A B : Option Addr} {n c m d : Nat} {xs : List Int}
end
end Go.Proofs.YtghecdccdmeooaaGreat

/-
  What the document's own sets answer (Rises, Has, With, Without, Ints, Addrs held against one another): the same as the program's; nothing that was there is otherwise. Conditions: at most 65535 numbers.
-/
namespace Go.Proofs.YtghecdccdmeooaaGreat
set_option maxRecDepth 100000
open Go.RowKit
section
variable {w : World} {lo lo' : Nat} {A A' : Option Addr} {n n' c c' : Nat} {xs : List Int}
theorem ints_same (h : IS .i64 lo w A n c xs) (h' : IS .i64 lo' w A' n' c' xs) (hn : n ≤ 65536) :
    Calls Tryz.prog 20 #[.slice A n c, .slice A' n' c'] w (RetBo true w) := by
  obtain rfl : n = n' := h.len.symm.trans h'.len
  have e0 : ((n : Int) != (n : Int)) = false := by simp
  go_enter Tryz.func20, Tryz.ntmps20
  go_wp2
  go_loopw [5] (fun i wr => ∃ k : Nat, k ≤ n ∧ i = .int .i64 k ∧ Below w.heap.size w wr) (fun i _ => n - (intOf i).toNat)
  case atStart => exact ⟨0, Nat.zero_le _, rfl, Below.refl _ _⟩
  case round =>
    obtain ⟨k, hk, rfl, Kr⟩ := hrel
    by_cases hlt : k < n
    · obtain ⟨b, o, rfl, _, hc⟩ := (h.below Kr).get hlt
      obtain ⟨b', o', rfl, _, hc'⟩ := (h'.below Kr).get hlt
      have e1 : (gi xs k != gi xs k) = false := by simp
      go_wp2
      go_quiet (fail)
      go_wp2
      go_roundw
      case rel => exact ⟨k + 1, by omega, by go_num, below_drewN Kr _⟩
      case measure => simp [intOf]; omega
    · go_wp2
      go_ret
      exact ⟨rfl, Kr⟩
theorem rhas9_any (h : IS .i64 lo w A n c xs) (hn : n ≤ 65536) (x : Int) :
    Calls Tryz.prog 22 #[.slice A n c, .int .i64 x] w fun e w' => e = .returned (.bool (hasB xs x)) ∧ w = w' := by
  have hl := h.len
  go_enter Tryz.func22, Tryz.ntmps22
  go_wp2
  go_loop [5] (fun i => ∃ k : Nat, k ≤ n ∧ i = .int .i64 k ∧ Hid (∀ j, j < k → gi xs j ≠ x)) (fun i => n - (intOf i).toNat)
  case atStart => exact ⟨0, Nat.zero_le _, rfl, fun j hj => by omega⟩
  case round =>
    obtain ⟨k, hk, rfl, HH⟩ := hrel
    by_cases hlt : k < n
    · obtain ⟨b, o, rfl, _, hc⟩ := h.get hlt
      by_cases he : gi xs k = x
      · have e1 : (gi xs k == x) = true := by simp [he]
        have hx : hasB xs x = true := decide_eq_true (mem_gi.2 ⟨k, by omega, he⟩)
        clear he
        go_wp2
        go_ret
        exact ⟨by first | rfl | exact ret_bool hx.symm, rfl⟩
      · have e1 : (gi xs k == x) = false := by simpa using he
        have H2 : Hid (∀ j, j < k + 1 → gi xs j ≠ x) := fun j hj => by
          rcases Nat.lt_or_ge j k with g | g
          · exact HH.out j g
          · obtain rfl : j = k := by omega
            exact he
        clear he
        go_wp2
        go_round
        case rel => exact ⟨k + 1, by omega, by go_num, H2⟩
        case measure => simp [intOf]; omega
    · have hx : hasB xs x = false := decide_eq_false (fun g => by
        obtain ⟨j, hj, e⟩ := mem_gi.1 g
        exact HH.out j (by omega) e)
      go_wp2
      go_ret
      exact ⟨by first | rfl | exact ret_bool hx.symm, rfl⟩
theorem IS.here {k : IntKind} {b o : Nat} (h : IS k lo w (some ⟨b, o, none⟩) n c xs) {j : Nat} (hj : j < n) : w.cell? ⟨b, o + j, none⟩ = some (.int k (gi xs j)) := by
  obtain ⟨b', o', e, _, hc⟩ := h.get hj
  injection e with e
  injection e with e1 e2
  subst e1 e2
  exact hc
theorem ris_take (h : Ris xs) (k : Nat) : Ris (xs.take k) := List.Pairwise.sublist (List.take_sublist _ _) h
theorem ris_snoc {l : List Int} {y : Int} (h : Ris (l ++ [y])) : Ris l ∧ ∀ z ∈ l, z < y := by
  obtain ⟨h1, _, h3⟩ := List.pairwise_append.1 h
  exact ⟨h1, fun z hz => h3 z hz y (by simp)⟩
theorem ins_snoc {l : List Int} {x y : Int} (h : Ris (l ++ [y])) (hx : x < y) : ins l x ++ [y] = ins (l ++ [y]) x := by
  obtain ⟨h1, h2⟩ := ris_snoc h
  refine Ris.ext (Ris.two (h1.ins x) (List.pairwise_singleton _ _) fun z hz b hb => ?_) (h.ins x) fun z => ?_
  · have : b = y := by simpa using hb
    subst this
    rcases mem_ins.1 hz with rfl | hz
    · exact hx
    · exact h2 z hz
  · rw [List.mem_append, mem_ins, mem_ins, List.mem_append, or_assoc]
theorem ins_last {l : List Int} {x : Int} (h : Ris l) (hx : ∀ z ∈ l, z < x) : l ++ [x] = ins l x := by
  refine Ris.ext (Ris.two h (List.pairwise_singleton _ _) fun z hz b hb => ?_) (h.ins x) fun z => ?_
  · have : b = x := by simpa using hb
    subst this
    exact hx z hz
  · rw [List.mem_append, mem_ins]
    simp only [List.mem_singleton]
    exact Or.comm
theorem mem_take_gi {xs : List Int} {k : Nat} {z : Int} (hk : k ≤ xs.length) : z ∈ xs.take k ↔ ∃ j, j < k ∧ gi xs j = z := by
  constructor
  · intro h
    obtain ⟨j, hj, e⟩ := List.getElem_of_mem h
    rw [List.getElem_take] at e
    rw [List.length_take] at hj
    exact ⟨j, by omega, by rw [gi_at (by omega)]; exact e⟩
  · rintro ⟨j, hj, rfl⟩
    rw [gi_at (by omega)]
    exact List.mem_take_iff_getElem.2 ⟨j, by omega, rfl⟩
end
end Go.Proofs.YtghecdccdmeooaaGreat

/-
  What the document's own Of, Full, Addrs and May answer of a configuration that may be: the same as the program's; nothing that was there is otherwise.
-/
namespace Go.Proofs.YtghecdccdmeooaaGreat
set_option maxRecDepth 100000
open Go.RowKit
section
variable {w : World} {lo lo2 a M : Nat} {p sh wo qu tr : Int} {A B : Option Addr} {n c m d : Nat} {zs xs : List Int} {ys : List Nat}
set_option maxHeartbeats 1000000 in
theorem rfull9_any (hM : Much a p M) (h : IS .i64 lo w A n c zs) (hn : n ≤ 65536) (hs : IS .i64 lo2 w B m d xs) (hm : m ≤ 65536) :
    Calls Tryz.prog 19 #[.agg #[.int .u32 a, .int .i64 p, .slice A n c, .int .i64 sh, .int .i64 wo, .int .i64 qu, .int .i64 tr], .slice B m d] w (RetBo (fullB M zs xs) w) := by
  have hMm := hM.most
  have K := below_alloc w (.cells #[.int .u32 a, .int .i64 p, .slice A n c, .int .i64 sh, .int .i64 wo, .int .i64 qu, .int .i64 tr] 27)
  have H := Bk.new w #[.int .u32 a, .int .i64 p, .slice A n c, .int .i64 sh, .int .i64 wo, .int .i64 qu, .int .i64 tr] 27
  replace h := h.below K
  replace hs := hs.below K
  go_enter Tryz.func19, Tryz.ntmps19
  go_upto_region 1 with (fail)
  generalize w.alloc (.cells #[.int .u32 a, .int .i64 p, .slice A n c, .int .i64 sh, .int .i64 wo, .int .i64 qu, .int .i64 tr] 27) = w2 at H K h hs ⊢
  generalize w.heap.size = g at H ⊢
  go_wp2
  go_loopw [5] (fun i wr => ∃ k : Nat, k ≤ M ∧ i = .int .i64 k ∧ Hid (∀ i : Nat, i < k → hasB zs i = true ∨ hasB xs i = true) ∧ Below w2.heap.size w2 wr) (fun i _ => M - (intOf i).toNat)
  case atStart => exact ⟨0, Nat.zero_le _, rfl, fun i hi => by omega, Below.refl _ _⟩
  case round =>
    obtain ⟨k, hk, rfl, HH, Kr⟩ := hrel
    replace H := H.below Kr
    replace h := h.below Kr
    replace hs := hs.below Kr
    replace K := Below.then_ K Kr
    have H_0 := H.at_ (v := .int .u32 a) 0 rfl
    have H_1 := H.at_ (v := .int .i64 p) 1 rfl
    have H_z := H.lt
    go_wp2_with fail
    refine (rmany_yes hM).mono ?_
    rintro e w3 ⟨rfl, K'⟩
    clear H_0 H_1 H_z
    replace H := H.below K'
    replace h := h.below K'
    replace hs := hs.below K'
    replace K := Below.then_ K K'
    replace Kr := Below.then_ Kr K'
    clear K'
    by_cases hlt : k < M
    · have T2 := Lib.hid (rheld_any (a := a) (p := p) (sh := sh) (wo := wo) (qu := qu) (tr := tr) h hn (k : Int))
      have H_0 := H.at_ (v := .int .u32 a) 0 rfl
      have H_1 := H.at_ (v := .int .i64 p) 1 rfl
      have H_2 := H.at_ (v := .slice A n c) 2 rfl
      have H_3 := H.at_ (v := .int .i64 sh) 3 rfl
      have H_4 := H.at_ (v := .int .i64 wo) 4 rfl
      have H_5 := H.at_ (v := .int .i64 qu) 5 rfl
      have H_6 := H.at_ (v := .int .i64 tr) 6 rfl
      have H_z := H.lt
      cases h1 : hasB zs (k : Int) with
      | true =>
        rw [h1] at T2
        have H2 : Hid (∀ i : Nat, i < k + 1 → hasB zs i = true ∨ hasB xs i = true) := fun i hi => by
          rcases Nat.lt_or_ge i k with g | g
          · exact HH.out i g
          · obtain rfl : i = k := by omega
            exact .inl h1
        clear h1 HH
        go_wp2_with fail
        refine (T2.out).mono ?_
        rintro e w4 ⟨rfl, K'⟩
        clear H_0 H_1 H_2 H_3 H_4 H_5 H_6 H_z
        replace Kr := Below.then_ Kr K'
        clear K' T2
        go_wp2
        go_roundw
        case rel => exact ⟨k + 1, by omega, by go_num, H2, Kr⟩
        case measure => simp [intOf]; omega
      | false =>
        rw [h1] at T2
        go_wp2_with fail
        refine (T2.out).mono ?_
        rintro e w4 ⟨rfl, K'⟩
        clear H_0 H_1 H_2 H_3 H_4 H_5 H_6 H_z
        replace Kr := Below.then_ Kr K'
        replace K := Below.then_ K K'
        have T3 := Lib.hid (rhas9_any (hs.below K') hm (k : Int))
        clear K' T2
        cases h2 : hasB xs (k : Int) with
        | true =>
          rw [h2] at T3
          have H2 : Hid (∀ i : Nat, i < k + 1 → hasB zs i = true ∨ hasB xs i = true) := fun i hi => by
            rcases Nat.lt_or_ge i k with g | g
            · exact HH.out i g
            · obtain rfl : i = k := by omega
              exact .inr h2
          clear h1 h2 HH
          go_wp2_with fail
          refine (T3.out).mono ?_
          rintro e w5 ⟨rfl, rfl⟩
          clear T3
          go_wp2
          go_roundw
          case rel => exact ⟨k + 1, by omega, by go_num, H2, Kr⟩
          case measure => simp [intOf]; omega
        | false =>
          rw [h2] at T3
          have N : Hid (fullB M zs xs = false) := by
            rw [Hid, Bool.eq_false_iff]
            intro g
            have := fullB_iff.1 g k hlt
            rw [h1, h2] at this
            rcases this with e | e <;> cases e
          clear h1 h2 HH
          go_wp2_with fail
          refine (T3.out).mono ?_
          rintro e w5 ⟨rfl, rfl⟩
          clear T3
          go_wp2
          go_ret
          exact ⟨ret_bool N.out.symm, K⟩
    · have N : Hid (fullB M zs xs = true) := fullB_iff.2 fun i hi => HH.out i (by omega)
      clear HH
      go_wp2
      go_ret
      exact ⟨ret_bool N.out.symm, K⟩
end
end Go.Proofs.YtghecdccdmeooaaGreat

/-
  What the document's own Of and With answer, in new memory.
-/
namespace Go.Proofs.YtghecdccdmeooaaGreat
set_option maxRecDepth 100000
open Go.RowKit
def RetIN (k : IntKind) (xs : List Int) (w : World) (e : Ending) (w' : World) : Prop := ∃ A n c, e = .returned (.slice A n c) ∧ IS k w.heap.size w' A n c xs ∧ Below w.heap.size w w'
section
variable {w : World} {lo lo' : Nat} {A A' : Option Addr} {n n' c c' : Nat} {xs : List Int}
set_option maxHeartbeats 1000000 in
theorem rwith_new (h : IS .i64 lo w A n c xs) (hn : n < 65536) (hr : Ris xs) (x : Int) :
    Calls Tryz.prog 23 #[.slice A n c, .int .i64 x] w (RetIN .i64 (ins xs x) w) := by
  have hl := h.len
  replace hr := Lib.hid hr
  go_enter Tryz.func23, Tryz.ntmps23
  go_wp2
  go_loopw [5, 6, 7] (fun s dn i wr => ∃ (k q e : Nat) (C : Option Addr) (b : Bool), k ≤ n ∧ i = .int .i64 k ∧ s = .slice C q e ∧ dn = .bool b ∧ Hid ((b = true → ∃ j, j < k ∧ x ≤ gi xs j) ∧ (b = false → ∀ j, j < k → gi xs j < x)) ∧ Hid (Ri .i64 3 wr w.heap.size (.slice C q e) q (if b = true then ins (xs.take k) x else xs.take k)) ∧ Below w.heap.size w wr) (fun _ _ i _ => n - (intOf i).toNat)
  case atStart => exact ⟨0, 0, 0, none, false, Nat.zero_le _, rfl, rfl, rfl, ⟨(fun e => by cases e), fun _ j hj => by omega⟩, Lib.hid (Ri.nil _ _), Below.refl _ _⟩
  case round =>
    obtain ⟨k, q, e, C, dn, hk, rfl, rfl, rfl, HD, HR, Kr⟩ := hrel
    by_cases hlt : k < n
    · obtain ⟨b, o, rfl, _, hc⟩ := (h.below Kr).get hlt
      have ht := Lib.hid (take_gi (xs := xs) (j := k) (by omega))
      have hrt := Lib.hid (ris_take hr.out (k + 1))
      obtain ⟨i0, hi, hz0, hz1, hz2⟩ := info_parts int_info
      have hql : q ≤ k + 1 := by
        have h1 := HR.out.len
        have h2 := len_ins (xs := xs.take k) x
        rw [List.length_take] at h2
        split at h1
        · omega
        · rw [List.length_take] at h1; omega
      cases dn with
      | true =>
        obtain ⟨j, hj, hxj⟩ := HD.out.1 rfl
        have hgt : x < gi xs k := by have := hr.out.lt hj (by omega); omega
        obtain ⟨C2, e2, w5, hap, R5, K5⟩ := run_app1 (P := Tryz.prog) (x := gi xs k) Tryz.underlying25 hi hz0 hz1 (by omega) HR.out (by omega) Kr.size 25
        have HA := Lib.hid hap
        have E : ins (xs.take k) x ++ [gi xs k] = ins (xs.take (k + 1)) x := by
          have := hrt.out
          rw [ht.out] at this ⊢
          exact ins_snoc this hgt
        have HR2 : Hid (Ri .i64 3 w5 w.heap.size (.slice C2 (q + 1) e2) (q + 1) (if true = true then ins (xs.take (k + 1)) x else xs.take (k + 1))) := by
          rw [if_pos rfl] at R5 ⊢
          rw [E] at R5
          exact R5
        have HD2 : Hid ((true = true → ∃ j, j < k + 1 ∧ x ≤ gi xs j) ∧ (true = false → ∀ j, j < k + 1 → gi xs j < x)) := ⟨fun _ => ⟨j, by omega, hxj⟩, fun e => by cases e⟩
        have K6 := Kr.trans K5
        clear HR hap R5 K5 hi hz0 hz1 hz2 HD E ht hrt hgt hxj
        generalize gi xs k = y at *
        go_wp2_with (at_builtin; refine wpList_append_run rfl (.tmp 34) (.tmp 39) 25 rfl _ _ _ _ rfl rfl HA.out ?_)
        go_roundw
        case rel => exact ⟨k + 1, q + 1, e2, C2, true, by omega, by go_num, rfl, rfl, HD2, HR2, K6⟩
        case measure => simp [intOf]; omega
      | false =>
        have hb := HD.out.2 rfl
        have hqk : q = k := by
          have h1 := HR.out.len
          rw [if_neg (by simp), List.length_take] at h1
          omega
        subst hqk
        by_cases h1 : gi xs q < x
        · obtain ⟨C2, e2, w5, hap, R5, K5⟩ := run_app1 (P := Tryz.prog) (x := gi xs q) Tryz.underlying25 hi hz0 hz1 (by omega) HR.out (by omega) Kr.size 25
          have HA := Lib.hid hap
          have HR2 : Hid (Ri .i64 3 w5 w.heap.size (.slice C2 (q + 1) e2) (q + 1) (if false = true then ins (xs.take (q + 1)) x else xs.take (q + 1))) := by
            rw [if_neg (by simp)] at R5 ⊢
            rw [ht.out]
            exact R5
          have HD2 : Hid ((false = true → ∃ j, j < q + 1 ∧ x ≤ gi xs j) ∧ (false = false → ∀ j, j < q + 1 → gi xs j < x)) := ⟨(fun e => by cases e), fun _ j hj => by
            rcases Nat.lt_or_ge j q with g | g
            · exact hb j g
            · obtain rfl : j = q := by omega
              exact h1⟩
          have K6 := Kr.trans K5
          have e1 : decide (x ≤ gi xs q) = false := by simpa using h1
          clear HR hap R5 K5 hi hz0 hz1 hz2 HD ht hrt h1 hb
          generalize gi xs q = y at *
          go_wp2_with (at_builtin; refine wpList_append_run rfl (.tmp 34) (.tmp 39) 25 rfl _ _ _ _ rfl rfl HA.out ?_)
          go_roundw
          case rel => exact ⟨q + 1, q + 1, e2, C2, false, by omega, by go_num, rfl, rfl, HD2, HR2, K6⟩
          case measure => simp [intOf]; omega
        · have e1 : decide (x ≤ gi xs q) = true := by simp; omega
          have HD2 : Hid ((true = true → ∃ j, j < q + 1 ∧ x ≤ gi xs j) ∧ (true = false → ∀ j, j < q + 1 → gi xs j < x)) := ⟨fun _ => ⟨q, by omega, by omega⟩, fun e => by cases e⟩
          by_cases h2 : gi xs q = x
          · obtain ⟨C2, e2, w5, hap, R5, K5⟩ := run_app1 (P := Tryz.prog) (x := gi xs q) Tryz.underlying25 hi hz0 hz1 (by omega) HR.out (by omega) Kr.size 25
            have HA := Lib.hid hap
            have HR2 : Hid (Ri .i64 3 w5 w.heap.size (.slice C2 (q + 1) e2) (q + 1) (if true = true then ins (xs.take (q + 1)) x else xs.take (q + 1))) := by
              rw [if_pos rfl, ins_in hrt.out (hasB_iff.2 ((mem_take_gi (by omega)).2 ⟨q, by omega, h2⟩)), ht.out]
              rw [if_neg (by simp)] at R5
              exact R5
            have K6 := Kr.trans K5
            have e3 : decide (x < gi xs q) = false := by simp; omega
            clear HR hap R5 K5 hi hz0 hz1 hz2 HD ht hrt h1 h2 hb
            generalize gi xs q = y at *
            go_wp2_with (at_builtin; refine wpList_append_run rfl (.tmp 34) (.tmp 39) 25 rfl _ _ _ _ rfl rfl HA.out ?_)
            go_roundw
            case rel => exact ⟨q + 1, q + 1, e2, C2, true, by omega, by go_num, rfl, rfl, HD2, HR2, K6⟩
            case measure => simp [intOf]; omega
          · obtain ⟨C1, d1, w4, hap1, R4, K4⟩ := run_app1 (P := Tryz.prog) (x := x) Tryz.underlying25 hi hz0 hz1 (by omega) HR.out (by omega) Kr.size 25
            have K45 := Kr.trans K4
            obtain ⟨C2, e2, w5, hap, R5, K5⟩ := run_app1 (P := Tryz.prog) (x := gi xs q) Tryz.underlying25 hi hz0 hz1 (by omega) R4 (by omega) K45.size 25
            have HA1 := Lib.hid hap1
            have HA := Lib.hid hap
            have HR2 : Hid (Ri .i64 3 w5 w.heap.size (.slice C2 (q + 1 + 1) e2) (q + 1 + 1) (if true = true then ins (xs.take (q + 1)) x else xs.take (q + 1))) := by
              have hrq := hrt.out
              rw [if_pos rfl, ht.out]
              rw [ht.out] at hrq
              rw [if_neg (by simp)] at R5
              rw [← ins_snoc hrq (by omega), ← ins_last (ris_snoc hrq).1 fun z hz => by obtain ⟨j, hj, rfl⟩ := (mem_take_gi (by omega)).1 hz; exact hb j hj]
              exact R5
            have K6 := K45.trans K5
            have e3 : decide (x < gi xs q) = true := by simp; omega
            have hc4 := (h.below K45).here hlt
            clear HR hap hap1 R4 R5 K4 K5 K45 hi hz0 hz1 hz2 HD ht hrt h1 h2 hb
            generalize gi xs q = y at *
            go_wp2_with (first
              | (at_builtin; refine wpList_append_run rfl (.tmp 30) (.tmp 32) 25 rfl _ _ _ _ rfl rfl HA1.out ?_)
              | (at_builtin; refine wpList_append_run rfl (.tmp 34) (.tmp 39) 25 rfl _ _ _ _ rfl rfl HA.out ?_))
            go_roundw
            case rel => exact ⟨q + 1, q + 1 + 1, e2, C2, true, by omega, by go_num, rfl, rfl, HD2, HR2, K6⟩
            case measure => simp [intOf]; omega
    · obtain rfl : k = n := by omega
      have HR2 := HR.out
      rw [List.take_of_length_le (by omega)] at HR2
      cases dn with
      | true =>
        rw [if_pos rfl] at HR2
        have I := Lib.hid (HR2.is)
        clear HR HR2 HD
        go_wp2
        go_ret
        exact ⟨_, _, _, rfl, I.out, Kr⟩
      | false =>
        rw [if_neg (by simp)] at HR2
        obtain rfl : q = k := HR2.len.symm.trans hl
        obtain ⟨i0, hi, hz0, hz1, hz2⟩ := info_parts int_info
        obtain ⟨C2, e2, w5, hap, R5, K5⟩ := run_app1 (P := Tryz.prog) (x := x) Tryz.underlying25 hi hz0 hz1 (by omega) HR2 (by omega) Kr.size 25
        rw [ins_last hr.out fun z hz => by obtain ⟨j, hj, rfl⟩ := mem_gi.1 hz; exact HD.out.2 rfl j (by omega)] at R5
        have HA := Lib.hid hap
        have I := Lib.hid (R5.is)
        have K6 := Kr.trans K5
        clear HR HR2 HD hap R5 K5 hi hz0 hz1 hz2
        go_wp2_with (at_builtin; refine wpList_append_run rfl (.tmp 43) (.tmp 45) 25 rfl _ _ _ _ rfl rfl HA.out ?_)
        go_ret
        exact ⟨_, _, _, rfl, I.out, K6⟩
end
section
variable {w : World} {lo lo2 a M : Nat} {p sh wo qu tr : Int} {A B : Option Addr} {n c m d : Nat} {zs xs : List Int} {ys : List Nat}
set_option maxHeartbeats 1000000 in
theorem rof_new (hM : Much a p M) (h : IS .i64 lo w A n c zs) (hn : n ≤ 65536) (hU : US w B m d ys) (hm : lv M ≤ m) (_hm2 : m ≤ 65536) :
    Calls Tryz.prog 17 #[.agg #[.int .u32 a, .int .i64 p, .slice A n c, .int .i64 sh, .int .i64 wo, .int .i64 qu, .int .i64 tr], .slice B m d] w (RetIN .i64 (os (uf zs ys) M) w) := by
  have hMm := hM.most
  have h4 : M ≤ 32 * m := by have : M ≤ 32 * lv M := by unfold lv; omega
                             omega
  clear hm
  have K := below_alloc w (.cells #[.int .u32 a, .int .i64 p, .slice A n c, .int .i64 sh, .int .i64 wo, .int .i64 qu, .int .i64 tr] 27)
  have H := Bk.new w #[.int .u32 a, .int .i64 p, .slice A n c, .int .i64 sh, .int .i64 wo, .int .i64 qu, .int .i64 tr] 27
  replace h := h.below K
  replace hU := hU.below K
  go_enter Tryz.func17, Tryz.ntmps17
  go_upto_region 1 with (fail)
  generalize w.alloc (.cells #[.int .u32 a, .int .i64 p, .slice A n c, .int .i64 sh, .int .i64 wo, .int .i64 qu, .int .i64 tr] 27) = w2 at H K h hU ⊢
  have hw2 : w.heap.size ≤ w2.heap.size := K.size
  generalize w.heap.size = g at H ⊢
  go_wp2
  go_loopw [5, 6] (fun s i wr => ∃ (k q e : Nat) (C : Option Addr), k ≤ M ∧ i = .int .i64 k ∧ s = .slice C q e ∧ Hid (Ri .i64 3 wr w2.heap.size (.slice C q e) q (os (uf zs ys) k)) ∧ Below w2.heap.size w2 wr) (fun _ i _ => M - (intOf i).toNat)
  case atStart => exact ⟨0, 0, 0, none, Nat.zero_le _, rfl, rfl, Lib.hid (Ri.nil _ _), Below.refl _ _⟩
  case round =>
    obtain ⟨k, q, e, C, hk, rfl, rfl, HR, Kr⟩ := hrel
    replace H := H.below Kr
    replace h := h.below Kr
    replace K := Below.then_ K Kr
    replace HR := HR.out
    have H_0 := H.at_ (v := .int .u32 a) 0 rfl
    have H_1 := H.at_ (v := .int .i64 p) 1 rfl
    have H_z := H.lt
    go_wp2_with fail
    refine (rmany_yes hM).mono ?_
    rintro e w3 ⟨rfl, K'⟩
    clear H_0 H_1 H_z
    replace HR := HR.below K'
    replace H := H.below K'
    replace h := h.below K'
    replace K := Below.then_ K K'
    replace Kr := Below.then_ Kr K'
    clear K'
    by_cases hlt : k < M
    · have hql := HR.len
      have hq := len_os (uf zs ys) k
      rw [hql] at hq
      obtain ⟨l, hl⟩ : ∃ l : Nat, (k : Int) / 32 = l := ⟨k / 32, by omega⟩
      obtain ⟨r, hr⟩ : ∃ r : Nat, (k : Int) % 32 = r := ⟨k % 32, by omega⟩
      have hl2 : l = k / 32 := by omega
      have hr2 : r = k % 32 := by omega
      have hr3 : r < 64 := by omega
      have huf := Lib.hid (show uf zs ys k = ((gt ys l).testBit r && !hasB zs (k : Int)) by unfold uf; rw [← hl2, ← hr2])
      obtain ⟨bb, oo, rfl, _, hc⟩ := (hU.below Kr).get (j := l) (by omega)
      have T1 := fun w => Lib.hid (rhas_any (gt ys l) r (gt_lt hU.fit l) hr3 w)
      have T2 := Lib.hid (rheld_any (a := a) (p := p) (sh := sh) (wo := wo) (qu := qu) (tr := tr) h hn (k : Int))
      clear hl2 hr2 hql
      generalize gt ys l = X at *
      have hv := huf.out
      clear huf
      cases h1 : X.testBit r with
      | false =>
        rw [h1, Bool.false_and] at hv
        rw [h1] at T1
        have HR2 := HR
        rw [← os_no hv] at HR2
        replace HR2 := Lib.hid HR2
        clear h1 hv HR T2
        go_wp2_with ((with_reducible refine ((T1 _).out).mono ?_); rintro e w' ⟨rfl, rfl⟩)
        go_roundw
        case rel => exact ⟨k + 1, q, _, C, by omega, by go_num, rfl, HR2, Kr⟩
        case measure => simp [intOf]; omega
      | true =>
        rw [h1] at T1
        have H_0 := H.at_ (v := .int .u32 a) 0 rfl
        have H_1 := H.at_ (v := .int .i64 p) 1 rfl
        have H_2 := H.at_ (v := .slice A n c) 2 rfl
        have H_3 := H.at_ (v := .int .i64 sh) 3 rfl
        have H_4 := H.at_ (v := .int .i64 wo) 4 rfl
        have H_5 := H.at_ (v := .int .i64 qu) 5 rfl
        have H_6 := H.at_ (v := .int .i64 tr) 6 rfl
        have H_z := H.lt
        cases h2 : hasB zs (k : Int) with
        | true =>
          rw [h1, h2] at hv
          rw [h2] at T2
          have HR2 := HR
          rw [← os_no (by rw [hv]; rfl)] at HR2
          clear h1 h2 hv HR
          go_wp2_with ((with_reducible refine ((T1 _).out).mono ?_); rintro e w' ⟨rfl, rfl⟩)
          refine (T2.out).mono ?_
          rintro e w4 ⟨rfl, K'⟩
          clear H_0 H_1 H_2 H_3 H_4 H_5 H_6 H_z
          replace HR2 := Lib.hid (HR2.below K')
          replace Kr := Below.then_ Kr K'
          clear K' T2 T1
          go_wp2
          go_roundw
          case rel => exact ⟨k + 1, q, _, C, by omega, by go_num, rfl, HR2, Kr⟩
          case measure => simp [intOf]; omega
        | false =>
          rw [h1, h2] at hv
          rw [h2] at T2
          have hos := Lib.hid (os_yes (f := uf zs ys) (k := k) (by rw [hv]; rfl))
          clear h1 h2 hv
          go_wp2_with ((with_reducible refine ((T1 _).out).mono ?_); rintro e w' ⟨rfl, rfl⟩)
          refine (T2.out).mono ?_
          rintro e w4 ⟨rfl, K'⟩
          clear H_0 H_1 H_2 H_3 H_4 H_5 H_6 H_z
          replace HR := HR.below K'
          replace Kr := Below.then_ Kr K'
          clear K' T2 T1
          obtain ⟨i0, hi, hz0, hz1, hz2⟩ := info_parts int_info
          obtain ⟨C2, e2, w5, hap, R5, K5⟩ := run_app1 (P := Tryz.prog) (x := (k : Int)) Tryz.underlying25 hi hz0 hz1 (by omega) HR (by omega) Kr.size 25
          have HA := Lib.hid hap
          rw [← hos.out] at R5
          have HR2 := Lib.hid R5
          have K6 := Kr.trans K5
          clear HR hap R5 K5 hi hz0 hz1 hz2 hos
          go_wp2_with (at_builtin; refine wpList_append_run rfl (.tmp 28) (.tmp 30) 25 rfl _ _ _ _ rfl rfl HA.out ?_)
          go_roundw
          case rel => exact ⟨k + 1, q + 1, e2, C2, by omega, by go_num, rfl, HR2, K6⟩
          case measure => simp [intOf]; omega
    · obtain rfl : k = M := by omega
      have I := Lib.hid ((HR.is).lower hw2)
      clear HR
      go_wp2
      go_ret
      exact ⟨_, _, _, rfl, I.out, K⟩
end
end Go.Proofs.YtghecdccdmeooaaGreat

/-
  What a claim, or a drop, of an offset's bit in the cells makes of the set that they tell; other cells than leaves say nothing. No program in it, but for words.
-/
namespace Go.Proofs.YtghecdccdmeooaaGreat
set_option maxRecDepth 100000
open Go.RowKit
section
variable {zs : List Int} {ys : List Nat} {M o m : Nat}
theorem uf_claim (ho : o / 32 < ys.length) (i : Nat) : uf zs (ys.set (o / 32) (clm (gt ys (o / 32)) (o % 32))) i = ((gt ys (i / 32)).testBit (i % 32) && !hasB zs (i : Int) || decide (i = o) && !hasB zs (i : Int)) := by
  unfold uf
  rw [gt_set ho]
  by_cases e : o / 32 = i / 32
  · rw [if_pos e, clm_bit _ _ (by omega), e]
    by_cases e2 : o % 32 = i % 32
    · have e3 : i = o := by omega
      rw [decide_eq_true e2, decide_eq_true e3]
      cases (gt ys (i / 32)).testBit (i % 32) <;> cases hasB zs (i : Int) <;> rfl
    · have e3 : ¬ i = o := by omega
      rw [decide_eq_false e2, decide_eq_false e3]
      cases (gt ys (i / 32)).testBit (i % 32) <;> cases hasB zs (i : Int) <;> rfl
  · have e3 : ¬ i = o := by omega
    rw [if_neg e, decide_eq_false e3]
    cases (gt ys (i / 32)).testBit (i % 32) <;> cases hasB zs (i : Int) <;> rfl
theorem os_same {f g : Nat → Bool} {k : Nat} (h : ∀ i, i < k → f i = g i) : os f k = os g k :=
  os_congr fun i => ⟨fun ⟨h1, h2⟩ => ⟨h1, by rw [← h i h1]; exact h2⟩, fun ⟨h1, h2⟩ => ⟨h1, by rw [h i h1]; exact h2⟩⟩
theorem os_claim (ho : o / 32 < ys.length) (hoM : o < M) (hh : hasB zs (o : Int) = false) : os (uf zs (ys.set (o / 32) (clm (gt ys (o / 32)) (o % 32)))) M = ins (os (uf zs ys) M) (o : Int) := by
  refine (ris_os _ _).ext ((ris_os _ _).ins _) fun z => ?_
  rw [mem_ins, mem_os, mem_os]
  constructor
  · rintro ⟨i, h1, h2, rfl⟩
    rw [uf_claim ho] at h2
    by_cases e : i = o
    · exact .inl (by rw [e])
    · refine .inr ⟨i, h1, ?_, rfl⟩
      rw [decide_eq_false e] at h2
      unfold uf
      simpa using h2
  · rintro (h | ⟨i, h1, h2, rfl⟩)
    · refine ⟨o, hoM, ?_, h⟩
      rw [uf_claim ho, hh]
      simp
    · refine ⟨i, h1, ?_, rfl⟩
      rw [uf_claim ho]
      unfold uf at h2
      rw [h2, Bool.true_or]
theorem has_os (hoM : o < M) (hh : hasB zs (o : Int) = false) : hasB (os (uf zs ys) M) (o : Int) = (gt ys (o / 32)).testBit (o % 32) := by
  have e : uf zs ys o = (gt ys (o / 32)).testBit (o % 32) := by unfold uf; rw [hh]; simp
  rw [← e, Bool.eq_iff_iff, hasB_iff, mem_os]
  constructor
  · rintro ⟨i, _, h2, h3⟩
    obtain rfl : o = i := by omega
    exact h2
  · exact fun h => ⟨o, hoM, h, rfl⟩
end
end Go.Proofs.YtghecdccdmeooaaGreat

/-
  A grant alone, and a grant between whatever others do: what is left to do, and what it comes to. No program in it.
-/
namespace Go.Proofs.YtghecdccdmeooaaGreat
set_option maxRecDepth 100000
set_option maxRecDepth 100000
open Go.RowKit
set_option linter.unusedVariables false
section
variable {a M ns N : Nat} {zs : List Int} {ys ys0 ys2 : List Nat} {s : Sc} {sn : List Nat}
/-- Cells with the same leaves make the same set. -/
theorem os_leaves {ys ys' : List Nat} (h : ∀ i, i < lv M → gt ys i = gt ys' i) : os (uf zs ys) M = os (uf zs ys') M := os_same fun i hi => by
  unfold uf
  rw [h (i / 32) (by unfold lv; omega)]
/-- All leaves are full. -/
theorem full_leaves (h : ∀ i, i < lv M → fl (gt ys i) = true) : fullB M zs (os (uf zs ys) M) = true := fullB_iff.2 fun i hi => by
  cases hh : hasB zs (i : Int) with
  | true => exact .inl rfl
  | false =>
    refine .inr ?_
    rw [has_os hi hh]
    exact (fl_iff _).1 (h (i / 32) (by unfold lv; omega)) (i % 32) (by omega)
theorem not_full {o : Nat} (ho : o < M) (hh : hasB zs (o : Int) = false) (hb : (gt ys (o / 32)).testBit (o % 32) = false) : fullB M zs (os (uf zs ys) M) = false := by
  cases hf : fullB M zs (os (uf zs ys) M) with
  | false => rfl
  | true =>
    rcases fullB_iff.1 hf o ho with h | h
    · rw [hh] at h; cases h
    · rw [has_os ho hh, hb] at h; cases h
/-- What a grant came to. -/
def Res (a M : Nat) (zs : List Int) (ys0 ys : List Nat) (s : Sc) : Prop :=
  (s.err = 0 ∧ ∃ o, o < M ∧ hasB zs (o : Int) = false ∧ (gt ys0 (o / 32)).testBit (o % 32) = false ∧ s.aad = ((a + o) % 4294967296 : Nat) ∧ ∀ i, i < lv M → gt ys i = gt (ys0.set (o / 32) (clm (gt ys0 (o / 32)) (o % 32))) i) ∨
  (s.err = 9 ∧ (∀ i, i < lv M → gt ys i = gt ys0 i) ∧ ∀ i, i < lv M → fl (gt ys0 i) = true)
theorem Res.same {ys' : List Nat} {s' : Sc} (h : Res a M zs ys0 ys s) (e1 : s'.err = s.err) (e2 : s'.aad = s.aad) (e3 : ∀ i, i < lv M → gt ys' i = gt ys i) : Res a M zs ys0 ys' s' := by
  rcases h with ⟨h1, o, h2, h3, h4, h5, h6⟩ | ⟨h1, h2, h3⟩
  · exact .inl ⟨e1.trans h1, o, h2, h3, h4, e2.trans h5, fun i hi => (e3 i hi).trans (h6 i hi)⟩
  · exact .inr ⟨e1.trans h1, fun i hi => (e3 i hi).trans (h2 i hi), h3⟩
theorem ghd_of {X ns : Nat} (h : 1 ≤ ns) : ∃ hd : Nat, (X : Int) % (ns : Int) = (hd : Int) ∧ (X : Int).tmod (ns : Int) = (hd : Int) ∧ hd < ns :=
  ⟨X % ns, (Int.natCast_emod X ns).symm, by rw [Int.tmod_eq_emod_of_nonneg (by omega)]; exact (Int.natCast_emod X ns).symm, Nat.mod_lt _ h⟩
/-- A grant alone, with so many steps left. -/
def GA (a M ns : Nat) (zs : List Int) (ys0 ys : List Nat) (s : Sc) (sn : List Nat) (eff left : Nat) : Prop :=
  (eff = 0 ∧ ys = ys0 ∧ (
    (∃ k t : Nat, s.phase = 1 ∧ s.sought = (k : Int) ∧ s.at_ = (t : Int) ∧ k < ns ∧ t ≤ tv M ∧ (ns - k) * (3 + tv M) + 2 * lv M + 5 ≤ left + t) ∨
    (∃ k : Nat, s.phase = 2 ∧ s.sought = (k : Int) ∧ k < ns ∧ (ns - k) * (3 + tv M) + 2 * lv M + 4 ≤ left + tv M) ∨
    (s.phase = 3 ∧ gt ys s.leaf.toNat = s.word ∧ 5 ≤ left) ∨
    (s.phase = 6 ∧ (∀ j, j < sn.length → gt sn j = gt ys j) ∧ 2 * lv M + 4 ≤ left + sn.length) ∨
    (∃ t : Nat, s.phase = 7 ∧ s.at_ = (t : Int) ∧ (∀ j, j < lv M → gt sn j = gt ys j) ∧ lv M ≤ left + t))) ∨
  (eff = 1 ∧ Res a M zs ys0 ys s ∧ (s.phase = 0 ∨ (s.phase = 4 ∧ (s.at_ = 0 ∧ 4 ≤ left ∨ s.at_ = 1 ∧ 2 ≤ left)) ∨ (s.phase = 5 ∧ (s.at_ = 0 ∧ 3 ≤ left ∨ s.at_ = 1 ∧ 1 ≤ left))))
theorem ga_start {hd : Int} (hns : 1 ≤ ns) : GA a M ns zs ys ys (gS0 hd) [] 0 (ns * (3 + tv M) + 2 * lv M + 5) :=
  .inl ⟨rfl, rfl, .inl ⟨0, 0, rfl, rfl, rfl, by omega, Nat.zero_le _, by rw [Nat.sub_zero]; omega⟩⟩
theorem ns_mul {k T : Nat} (h : k < ns) : (ns - k) * T = (ns - (k + 1)) * T + T := by
  rw [show ns - k = ns - (k + 1) + 1 by omega, Nat.add_mul, Nat.one_mul]
theorem gt_app {x : Nat} {j : Nat} : gt (sn ++ [x]) j = if j < sn.length then gt sn j else if j = sn.length then x else 0 := by
  unfold gt
  rw [List.getD_eq_getElem?_getD, List.getD_eq_getElem?_getD, List.getElem?_append]
  by_cases h : j < sn.length
  · rw [if_pos h, if_pos h]
  · rw [if_neg h, if_neg h]
    by_cases e : j = sn.length
    · subst e; simp
    · rw [if_neg e, List.getElem?_eq_none (by simp; omega)]; rfl
theorem gB_mark (h : s.phase = 4 ∨ s.phase = 5) : gB M ys s sn = false := by unfold gB; rw [if_neg (by omega), if_neg (by omega)]
theorem gC_leaf (hM : M ≤ 65536) (hG : GI M ns zs N s sn) (h : s.phase = 4 ∨ s.phase = 5) {i : Nat} (hi : i < lv M) : gt (gC M ys s) i = gt ys i := by
  unfold gC
  rw [if_neg (by omega), if_pos h]
  rcases stC_sum (M := M) (ys := ys) (s := s) (fun j e hj => (lv_top hM hj).1) with e | ⟨j, W, hj, e, _⟩
  · rw [e]
  · rw [e, gt_sum hj hi]
theorem gC_same (h : s.phase ≠ 3 ∧ s.phase ≠ 4 ∧ s.phase ≠ 5) : gC M ys s = ys := by unfold gC; rw [if_neg h.1, if_neg (by omega)]
/-- The words of an effect. -/
theorem claim_eff (hG : GI M ns zs N s sn) (hp : s.phase = 3) (hx : gt ys s.leaf.toNat = s.word) (er : s.err = 0) : ∃ o, o < M ∧ hasB zs (o : Int) = false ∧ (gt ys (o / 32)).testBit (o % 32) = false ∧ (adr a s.leaf.toNat s.bit.toNat : Int) = ((a + o) % 4294967296 : Nat) ∧ gC M ys s = ys.set (o / 32) (clm (gt ys (o / 32)) (o % 32)) := by
  cases hG.ph with
  | claim i b q1 q2 q3 q4 q5 q6 q7 =>
    have e : s.leaf.toNat = i := by rw [q2, Int.toNat_natCast]
    have e2 : s.bit.toNat = b := by rw [q3, Int.toNat_natCast]
    obtain ⟨f1, f2⟩ := nf_no q6
    have d1 : (32 * i + b) / 32 = i := by omega
    have d2 : (32 * i + b) % 32 = b := by omega
    rw [e] at hx
    refine ⟨32 * i + b, f1, f2, ?_, ?_, ?_⟩
    · rw [d1, d2, hx]; exact q7
    · rw [e, e2]; unfold adr; rfl
    · unfold gC
      rw [if_pos hp, d1, d2]
      unfold claimC
      rw [e, e2, if_pos hx, hx]
  | _ => omega
theorem ga_step (hM : M ≤ 65536) (hM0 : 0 < M) (hns : 1 ≤ ns) {eff left : Nat} (hG : GI M ns zs N s sn) (hY : YI M zs ys) (hA : GA a M ns zs ys0 ys s sn eff left) (hp0 : s.phase ≠ 0) :
    1 ≤ left ∧ GA a M ns zs ys0 (gC M ys s) (gS a M ns ys s sn) (gN M ys s sn) (eff + if gB M ys s sn = true then 1 else 0) (left - 1) := by
  have hL : 0 < lv M := by unfold lv; omega
  have er0 := hG.er hp0
  rcases hA with ⟨rfl, rfl, h⟩ | ⟨rfl, hR, h⟩
  · rcases h with ⟨k, t, q1, q2, q3, q4, q5, q6⟩ | ⟨k, q1, q2, q3, q4⟩ | ⟨q1, q2, q3⟩ | ⟨q1, q2, q3⟩ | ⟨t, q1, q2, q3, q4⟩
    · -- seeking
      have hm := ns_mul (T := 3 + tv M) q4
      have e : s.sought.toNat = k := by rw [q2, Int.toNat_natCast]
      have eC : gC M ys s = ys := gC_same (by omega)
      have eB : gB M ys s sn = false := by unfold gB; rw [if_neg (by omega), if_neg (by omega)]
      have eS : gS a M ns ys s sn = skS (ns : Int) M ys (sa M ns s.shard.toNat k) (sb M ns s.shard.toNat k) s := by unfold gS; rw [if_pos q1, e]
      have eN : gN M ys s sn = sn := by unfold gN; rw [if_neg (by omega), if_neg (by omega)]
      rw [eC, eB, eS, eN]
      refine ⟨by omega, .inl ⟨rfl, rfl, ?_⟩⟩
      rcases seek_mv (M := M) (ys := ys) (hd := s.shard.toNat) hns q2 q3 q4 hG.wd (gt_lt hY.fit _) with ⟨u, x, g1, g2, g3, g4⟩ | ⟨i, g1, g2⟩ | ⟨g1, g2⟩ | ⟨g1, g2⟩
      · rw [g4]; exact .inl ⟨k, u, q1, q2, rfl, q4, g2, by omega⟩
      · rw [g2]; exact .inr (.inl ⟨k, rfl, q2, q4, by omega⟩)
      · rw [g2]; exact .inl ⟨k + 1, 0, rfl, by show s.sought + 1 = _; omega, rfl, g1, Nat.zero_le _, by omega⟩
      · rw [g2]
        have es : sn = [] := by cases hG.ph <;> first | rfl | omega
        subst es
        exact .inr (.inr (.inr (.inl ⟨rfl, fun j hj => absurd hj (by simp), by simp; omega⟩)))
    · -- looking
      have hm := ns_mul (T := 3 + tv M) q3
      have eC : gC M ys s = ys := gC_same (by omega)
      have eB : gB M ys s sn = false := by unfold gB; rw [if_neg (by omega), if_neg (by omega)]
      have eS : gS a M ns ys s sn = lookS (ns : Int) (gt ys s.leaf.toNat) s := by unfold gS; rw [if_neg (by omega), if_pos q1]
      have eN : gN M ys s sn = sn := by unfold gN; rw [if_neg (by omega), if_neg (by omega)]
      rw [eC, eB, eS, eN]
      refine ⟨by omega, .inl ⟨rfl, rfl, ?_⟩⟩
      unfold lookS
      split
      · exact .inr (.inr (.inl ⟨rfl, rfl, by omega⟩))
      · split
        · exact .inl ⟨k + 1, 0, rfl, by show s.sought + 1 = _; omega, rfl, by omega, Nat.zero_le _, by omega⟩
        · have es : sn = [] := by cases hG.ph <;> first | rfl | omega
          subst es
          exact .inr (.inr (.inr (.inl ⟨rfl, fun j hj => absurd hj (by simp), by simp; omega⟩)))
    · -- claiming
      obtain ⟨o, c1, c2, c3, c4, c5⟩ := claim_eff (a := a) hG q1 q2 er0
      have eB : gB M ys s sn = true := by unfold gB; rw [if_pos q1, decide_eq_true q2]
      have eS : gS a M ns ys s sn = claimS a 0 [] (gt ys s.leaf.toNat) s := by unfold gS; rw [if_neg (by omega), if_neg (by omega), if_pos q1]
      rw [eB, eS, c5]
      refine ⟨by omega, .inr ⟨rfl, ?_⟩⟩
      rcases claim_mv (a := a) hG.kd (gt ys s.leaf.toNat) with ⟨g0, g | g⟩ | ⟨g0, _, _⟩
      · rw [g]; exact ⟨.inl ⟨er0, o, c1, c2, c3, c4, fun i hi => rfl⟩, .inr (.inl ⟨rfl, .inl ⟨rfl, by omega⟩⟩)⟩
      · rw [g]; exact ⟨.inl ⟨er0, o, c1, c2, c3, c4, fun i hi => rfl⟩, .inl rfl⟩
      · exact absurd q2 g0
    · -- the first collect
      have eC : gC M ys s = ys := gC_same (by omega)
      have eB : gB M ys s sn = false := by unfold gB; rw [if_neg (by omega), if_neg (by omega)]
      rw [eC, eB]
      have hph := hG.ph
      cases hph with
      | first sn p1 p2 p3 p4 =>
        have e : s.at_.toNat = sn.length := by rw [p2, Int.toNat_natCast]
        have eS : gS a M ns ys s sn = swF (lv M) (gt ys sn.length) s := by unfold gS; rw [if_neg (by omega), if_neg (by omega), if_neg (by omega), if_neg (by omega), if_pos q1, e]
        have eN : gN M ys s sn = if fb (gt ys sn.length) 32 = true then [] else sn ++ [gt ys sn.length] := by unfold gN; rw [if_pos q1, e]
        rw [eS, eN]
        refine ⟨by omega, .inl ⟨rfl, rfl, ?_⟩⟩
        have happ : ∀ j, j < sn.length + 1 → gt (sn ++ [gt ys sn.length]) j = gt ys j := fun j hj => by
          rw [gt_app]
          split
          · rename_i h1; exact q2 j h1
          · rw [if_pos (by omega), show j = sn.length by omega]
        unfold swF
        split
        · exact .inr (.inr (.inl ⟨rfl, by show gt ys s.at_.toNat = gt ys sn.length; rw [e], by omega⟩))
        · split
          · exact .inr (.inr (.inr (.inl ⟨q1, fun j hj => happ j (by simpa using hj), by simp; omega⟩)))
          · exact .inr (.inr (.inr (.inr ⟨0, rfl, rfl, fun j hj => happ j (by omega), by omega⟩)))
      | _ => omega
    · -- the second one
      have eC : gC M ys s = ys := gC_same (by omega)
      rw [eC]
      have hph := hG.ph
      cases hph with
      | again sn t2 p1 p2 p3 p4 p5 =>
        have et : t2 = t := by omega
        subst et
        have e : s.at_.toNat = t2 := by rw [p2, Int.toNat_natCast]
        have hx : gt ys t2 = gt sn t2 := (q3 t2 p3).symm
        have eS : gS a M ns ys s sn = swA (lv M) (gt ys t2) (gt sn t2) s := by unfold gS; rw [if_neg (by omega), if_neg (by omega), if_neg (by omega), if_neg (by omega), if_neg (by omega), if_pos q1, e]
        have eN : gN M ys s sn = if s.at_ + 1 < (lv M : Int) then sn else [] := by unfold gN; rw [if_neg (by omega), if_pos q1, e, if_pos hx]
        have eB : gB M ys s sn = decide (¬ s.at_ + 1 < (lv M : Int)) := by unfold gB; rw [if_neg (by omega), if_pos q1, e]; unfold swAB; rw [decide_eq_true hx, Bool.true_and]
        rw [eS, eN, eB]
        unfold swA
        rw [if_pos hx]
        by_cases hlt : s.at_ + 1 < (lv M : Int)
        · rw [if_pos hlt, if_pos hlt, decide_eq_false (by omega)]
          exact ⟨by omega, .inl ⟨rfl, rfl, .inr (.inr (.inr (.inr ⟨t2 + 1, q1, by show s.at_ + 1 = _; omega, q3, by omega⟩)))⟩⟩
        · rw [if_neg hlt, if_neg hlt, decide_eq_true hlt]
          refine ⟨by omega, .inr ⟨rfl, .inr ⟨rfl, fun i hi => rfl, fun i hi => ?_⟩, .inl rfl⟩⟩
          rw [← q3 i hi]
          exact (p5 _ (gt_mem (by omega))).2
      | _ => omega
  · -- marking
    have h45 : s.phase = 4 ∨ s.phase = 5 := by omega
    have eB := gB_mark (M := M) (ys := ys) (sn := sn) h45
    have eN : gN M ys s sn = sn := by unfold gN; rw [if_neg (by omega), if_neg (by omega)]
    have eS : gS a M ns ys s sn = stO a M 0 [] ys s := by unfold gS; rw [if_neg (by omega), if_neg (by omega), if_neg (by omega), if_pos h45]
    have hC : ∀ i, i < lv M → gt (gC M ys s) i = gt ys i := fun i hi => gC_leaf hM hG h45 hi
    rw [eB, eN, eS]
    have hl : bt s < 64 := by
      cases hG.ph with
      | mark i q1 q2 q3 q4 =>
        have := lv_top hM q3
        have hlf : s.leaf.toNat = i := by rw [q2, Int.toNat_natCast]
        unfold bt; rw [hlf]; split <;> omega
      | _ => omega
    refine ⟨by omega, .inr ⟨rfl, ?_⟩⟩
    rcases mark_mv (a := a) (M := M) (ys := ys) hG.kd h45 with ⟨x, g1, g2, g3⟩ | ⟨x, g1, g2, g3⟩ | ⟨x, g⟩ | g | g | g
    · rw [g2]
      refine ⟨hR.same rfl rfl hC, .inr (.inr ⟨rfl, ?_⟩)⟩
      show s.at_ = 0 ∧ _ ∨ s.at_ = 1 ∧ _
      omega
    · rw [g3]
      refine ⟨hR.same rfl rfl hC, .inr (.inl ⟨rfl, .inr ⟨rfl, by omega⟩⟩)⟩
    · rw [g]; exact ⟨hR.same rfl rfl hC, .inl rfl⟩
    · exact absurd hG.wd g
    · exact absurd (gt_lt hY.fit _) g
    · exact absurd hl g
theorem ga_done {eff left : Nat} (hA : GA a M ns zs ys0 ys s sn eff left) (h : s.phase = 0) : eff = 1 ∧ Res a M zs ys0 ys s := by
  rcases hA with ⟨rfl, rfl, h⟩ | ⟨rfl, hR, h⟩
  · omega
  · exact ⟨rfl, hR⟩
/-- What it came to, as sets. -/
theorem Res.sets (hY0 : YI M zs ys0) (h : Res a M zs ys0 ys s) : (s.err = 0 ∧ fullB M zs (os (uf zs ys0) M) = false ∧ ∃ o, o < M ∧ hasB zs (o : Int) = false ∧ hasB (os (uf zs ys0) M) (o : Int) = false ∧ s.aad = ((a + o) % 4294967296 : Nat) ∧ os (uf zs ys) M = ins (os (uf zs ys0) M) (o : Int)) ∨
    (s.err = 9 ∧ fullB M zs (os (uf zs ys0) M) = true ∧ os (uf zs ys) M = os (uf zs ys0) M) := by
  rcases h with ⟨h1, o, h2, h3, h4, h5, h6⟩ | ⟨h1, h2, h3⟩
  · have ho : o / 32 < ys0.length := by rw [hY0.len]; unfold lv; omega
    refine .inl ⟨h1, not_full h2 h3 h4, o, h2, h3, by rw [has_os h2 h3]; exact h4, h5, ?_⟩
    rw [os_leaves h6, os_claim ho h2 h3]
  · exact .inr ⟨h1, full_leaves h3, os_leaves h2⟩
/-- A word, changed so often at most. -/
def Chd (n x y : Nat) : Prop := ∃ d, 1 ≤ d ∧ d ≤ n ∧ cg y = (cg x + d) % 4294967296
def Snc (n x y : Nat) : Prop := y = x ∨ Chd n x y
theorem Chd.more {n n' x y : Nat} (h : Chd n x y) (hn : n ≤ n') : Chd n' x y := by
  obtain ⟨d, h1, h2, h3⟩ := h
  exact ⟨d, h1, by omega, h3⟩
theorem Chd.one {n x y z : Nat} (h : Chd n x y) (hz : cg z = (cg y + 1) % 4294967296) : Chd (n + 1) x z := by
  obtain ⟨d, h1, h2, h3⟩ := h
  exact ⟨d + 1, by omega, by omega, by rw [hz, h3]; omega⟩
theorem Chd.ne {n x y : Nat} (hn : n < 4294967296) (hx : x < U64) (h : Chd n x y) : y ≠ x := by
  obtain ⟨d, h1, h2, h3⟩ := h
  intro e
  subst e
  have := cg_lt hx
  omega
theorem Snc.one {n x y z : Nat} (h : Snc n x y) (hz : z = y ∨ cg z = (cg y + 1) % 4294967296) : Snc (n + 1) x z := by
  rcases h with rfl | h
  · rcases hz with rfl | hz
    · exact .inl rfl
    · exact .inr ⟨1, Nat.le_refl _, by omega, hz⟩
  · rcases hz with rfl | hz
    · exact .inr (h.more (by omega))
    · exact .inr (h.one hz)
/-- What others do changes a leaf once at most, and leaves what can't be free. -/
theorem dist_leaf (hM : M ≤ 65536) (hY : YI M zs ys) (hD : DistR M zs ys ys2) : YI M zs ys2 ∧ ∀ i, i < lv M → gt ys2 i = gt ys i ∨ cg (gt ys2 i) = (cg (gt ys i) + 1) % 4294967296 := by
  have bits : ∀ o b, o < M → hasB zs (o : Int) = false → nf M zs (o / 32) b = true → b ≠ o % 32 := fun o b ho hh hn e => by
    subst e
    unfold nf at hn
    rw [show 32 * (o / 32) + o % 32 = o by omega, hh, Bool.or_false, decide_eq_true_eq] at hn
    omega
  rcases hD with ⟨o, h1, h2, h3, rfl⟩ | ⟨o, h1, h2, h3, rfl⟩ | ⟨i, W, h1, h2, rfl⟩ | rfl
  · have hi : o / 32 < lv M := by unfold lv; omega
    refine ⟨hY.leaf hi (drp_lt _ _) fun b hb hn => ?_, fun i hi' => ?_⟩
    · rw [drp_bit (gt_lt hY.fit _) (Nat.mod_lt _ (by omega)) hb, hY.top _ b hi hb hn]
      have := bits o b h1 h2 hn
      simp; omega
    · rw [gt_set (by have := hY.len; omega)]
      split
      · rename_i e; subst e; exact .inr (cg_drp (gt_lt hY.fit _) (Nat.mod_lt _ (by omega)))
      · exact .inl rfl
  · have hi : o / 32 < lv M := by unfold lv; omega
    refine ⟨hY.leaf hi (clm_lt _ _) fun b hb hn => ?_, fun i hi' => ?_⟩
    · rw [clm_bit _ _ hb, hY.top _ b hi hb hn]; rfl
    · rw [gt_set (by have := hY.len; omega)]
      split
      · rename_i e; subst e; exact .inr (cg_clm _ (Nat.mod_lt _ (by omega)))
      · exact .inl rfl
  · exact ⟨hY.sum h1 h2, fun j hj => .inl (gt_sum h1 hj)⟩
  · exact ⟨hY, fun j hj => .inl rfl⟩
/-- A grant between what others do: so many doings at most; was all used at some time; did it take effect. -/
def GO (M N : Nat) (ys : List Nat) (s : Sc) (sn : List Nat) (full : Bool) (eff : Nat) : Prop :=
  (eff = 0 ∧ (s.phase = 1 ∨ s.phase = 2 ∨ s.phase = 3)) ∨
  (eff = 0 ∧ s.phase = 6 ∧ ∀ j, j < sn.length → Snc N (gt sn j) (gt ys j)) ∨
  (eff = 0 ∧ ∃ t : Nat, s.phase = 7 ∧ s.at_ = (t : Int) ∧ (full = true ∨ ∃ j, t ≤ j ∧ j < lv M ∧ Chd N (gt sn j) (gt ys j))) ∨
  (eff = 1 ∧ (s.phase = 4 ∨ s.phase = 5 ∨ s.phase = 0))
theorem go_start {hd : Int} {full : Bool} : GO M N ys (gS0 hd) [] full 0 := .inl ⟨rfl, .inl rfl⟩
theorem go_dist {full : Bool} {eff : Nat} (hM : M ≤ 65536) (hG : GI M ns zs N s sn) (hY : YI M zs ys) (hD : DistR M zs ys ys2) (h : GO M N ys s sn full eff) : GO M (N + 1) ys2 s sn full eff := by
  obtain ⟨_, hl⟩ := dist_leaf hM hY hD
  rcases h with h | ⟨h1, h2, h3⟩ | ⟨h1, t, h2, h3, h4⟩ | h
  · exact .inl h
  · refine .inr (.inl ⟨h1, h2, fun j hj => (h3 j hj).one (hl j ?_)⟩)
    cases hG.ph with
    | first sn p1 p2 p3 p4 => omega
    | _ => omega
  · refine .inr (.inr (.inl ⟨h1, t, h2, h3, h4.elim .inl fun ⟨j, q1, q2, q3⟩ => .inr ⟨j, q1, q2, ?_⟩⟩))
    rcases hl j q2 with e | e
    · rw [e]; exact q3.more (by omega)
    · exact q3.one e
  · exact .inr (.inr (.inr h))
/-- What an effect tells. -/
def Eff (a M : Nat) (zs : List Int) (ys ys' : List Nat) (s' : Sc) (full : Bool) : Prop :=
  (s'.err = 0 ∧ ∃ o, o < M ∧ hasB zs (o : Int) = false ∧ hasB (os (uf zs ys) M) (o : Int) = false ∧ s'.aad = ((a + o) % 4294967296 : Nat) ∧ os (uf zs ys') M = ins (os (uf zs ys) M) (o : Int)) ∨
  (s'.err = 9 ∧ full = true)
theorem go_step (hM : M ≤ 65536) (hM0 : 0 < M) (hns : 1 ≤ ns) {full full2 : Bool} {eff : Nat} (hN : N < 4294967296) (hG : GI M ns zs N s sn) (hY : YI M zs ys) (hO : GO M N ys s sn full eff) (hp0 : s.phase ≠ 0) (hf : full2 = (full || fullB M zs (os (uf zs ys) M))) :
    (gB M ys s sn = false → os (uf zs (gC M ys s)) M = os (uf zs ys) M) ∧ (gB M ys s sn = true → eff = 0 ∧ Eff a M zs ys (gC M ys s) (gS a M ns ys s sn) full2) ∧
    GO M N (gC M ys s) (gS a M ns ys s sn) (gN M ys s sn) full2 (eff + if gB M ys s sn = true then 1 else 0) := by
  have er0 := hG.er hp0
  have hL : 0 < lv M := by unfold lv; omega
  have hph := hG.ph
  cases hph with
  | done q1 => omega
  | seek k t q1 q2 q3 q4 q5 =>
    have he : eff = 0 := by rcases hO with h | h | h | h <;> omega
    have e : s.sought.toNat = k := by rw [q2, Int.toNat_natCast]
    have eC : gC M ys s = ys := gC_same (by omega)
    have eB : gB M ys s [] = false := by unfold gB; rw [if_neg (by omega), if_neg (by omega)]
    have eS : gS a M ns ys s [] = skS (ns : Int) M ys (sa M ns s.shard.toNat k) (sb M ns s.shard.toNat k) s := by unfold gS; rw [if_pos q1, e]
    have eN : gN M ys s [] = [] := by unfold gN; rw [if_neg (by omega), if_neg (by omega)]
    rw [eC, eB, eS, eN, he]
    refine ⟨fun _ => rfl, (fun h => by cases h), ?_⟩
    rcases seek_mv (M := M) (ys := ys) (hd := s.shard.toNat) hns q2 q3 q4 hG.wd (gt_lt hY.fit _) with ⟨u, x, g1, g2, g3, g4⟩ | ⟨i, g1, g2⟩ | ⟨g1, g2⟩ | ⟨g1, g2⟩
    · rw [g4]; exact .inl ⟨rfl, .inl q1⟩
    · rw [g2]; exact .inl ⟨rfl, .inr (.inl rfl)⟩
    · rw [g2]; exact .inl ⟨rfl, .inl rfl⟩
    · rw [g2]; exact .inr (.inl ⟨rfl, rfl, fun j hj => absurd hj (by simp)⟩)
  | look i q1 q2 q3 =>
    have he : eff = 0 := by rcases hO with h | h | h | h <;> omega
    have eC : gC M ys s = ys := gC_same (by omega)
    have eB : gB M ys s [] = false := by unfold gB; rw [if_neg (by omega), if_neg (by omega)]
    have eS : gS a M ns ys s [] = lookS (ns : Int) (gt ys s.leaf.toNat) s := by unfold gS; rw [if_neg (by omega), if_pos q1]
    have eN : gN M ys s [] = [] := by unfold gN; rw [if_neg (by omega), if_neg (by omega)]
    rw [eC, eB, eS, eN, he]
    refine ⟨fun _ => rfl, (fun h => by cases h), ?_⟩
    unfold lookS
    split
    · exact .inl ⟨rfl, .inr (.inr rfl)⟩
    · split
      · exact .inl ⟨rfl, .inl rfl⟩
      · exact .inr (.inl ⟨rfl, rfl, fun j hj => absurd hj (by simp)⟩)
  | claim i b q1 q2 q3 q4 q5 q6 q7 =>
    have he : eff = 0 := by rcases hO with h | h | h | h <;> omega
    have eS : gS a M ns ys s [] = claimS a 0 [] (gt ys s.leaf.toNat) s := by unfold gS; rw [if_neg (by omega), if_neg (by omega), if_pos q1]
    have eN : gN M ys s [] = [] := by unfold gN; rw [if_neg (by omega), if_neg (by omega)]
    have eB : gB M ys s [] = decide (gt ys s.leaf.toNat = s.word) := by unfold gB; rw [if_pos q1]
    rw [eB, eS, eN, he]
    by_cases hx : gt ys s.leaf.toNat = s.word
    · rw [decide_eq_true hx]
      obtain ⟨o, c1, c2, c3, c4, c5⟩ := claim_eff (a := a) hG q1 hx er0
      have ho : o / 32 < ys.length := by rw [hY.len]; unfold lv; omega
      refine ⟨(fun h => by cases h), fun _ => ⟨rfl, .inl ?_⟩, ?_⟩
      · rw [c5]
        rcases claim_mv (a := a) hG.kd (gt ys s.leaf.toNat) with ⟨g0, g | g⟩ | ⟨g0, _, _⟩
        · rw [g]; exact ⟨er0, o, c1, c2, by rw [has_os c1 c2]; exact c3, c4, os_claim ho c1 c2⟩
        · rw [g]; exact ⟨er0, o, c1, c2, by rw [has_os c1 c2]; exact c3, c4, os_claim ho c1 c2⟩
        · exact absurd hx g0
      · rcases claim_mv (a := a) hG.kd (gt ys s.leaf.toNat) with ⟨g0, g | g⟩ | ⟨g0, _, _⟩
        · rw [g]; exact .inr (.inr (.inr ⟨rfl, .inl rfl⟩))
        · rw [g]; exact .inr (.inr (.inr ⟨rfl, .inr (.inr rfl)⟩))
        · exact absurd hx g0
    · rw [decide_eq_false hx]
      have eC : gC M ys s = ys := by unfold gC; rw [if_pos q1]; unfold claimC; rw [if_neg hx]
      rw [eC]
      refine ⟨fun _ => rfl, (fun h => by cases h), ?_⟩
      rcases claim_mv (a := a) hG.kd (gt ys s.leaf.toNat) with ⟨g0, _⟩ | ⟨g0, g, gp⟩
      · exact absurd g0 hx
      · rw [g]; exact .inl ⟨rfl, .inr (.inl gp)⟩
  | mark i q1 q2 q3 q4 =>
    have he : eff = 1 := by rcases hO with h | h | ⟨_, t, h, _⟩ | h <;> omega
    have eB := gB_mark (M := M) (ys := ys) (sn := []) q1
    have eN : gN M ys s [] = [] := by unfold gN; rw [if_neg (by omega), if_neg (by omega)]
    have eS : gS a M ns ys s [] = stO a M 0 [] ys s := by unfold gS; rw [if_neg (by omega), if_neg (by omega), if_neg (by omega), if_pos q1]
    rw [eB, eN, eS, he]
    refine ⟨fun _ => os_leaves fun i hi => gC_leaf hM hG q1 hi, (fun h => by cases h), ?_⟩
    have hl : bt s < 64 := by
      have := lv_top hM q3
      have hlf : s.leaf.toNat = i := by rw [q2, Int.toNat_natCast]
      unfold bt; rw [hlf]; split <;> omega
    rcases mark_mv (a := a) (M := M) (ys := ys) hG.kd q1 with ⟨x, g1, g2, g3⟩ | ⟨x, g1, g2, g3⟩ | ⟨x, g⟩ | g | g | g
    · rw [g2]; exact .inr (.inr (.inr ⟨rfl, .inr (.inl rfl)⟩))
    · rw [g3]; exact .inr (.inr (.inr ⟨rfl, .inl rfl⟩))
    · rw [g]; exact .inr (.inr (.inr ⟨rfl, .inr (.inr rfl)⟩))
    · exact absurd hG.wd g
    · exact absurd (gt_lt hY.fit _) g
    · exact absurd hl g
  | first sn q1 q2 q3 q4 =>
    have hO2 : eff = 0 ∧ ∀ j, j < sn.length → Snc N (gt sn j) (gt ys j) := by
      rcases hO with h | ⟨h1, _, h3⟩ | ⟨_, t, h, _⟩ | h
      · omega
      · exact ⟨h1, h3⟩
      · omega
      · omega
    obtain ⟨he, hs⟩ := hO2
    have e : s.at_.toNat = sn.length := by rw [q2, Int.toNat_natCast]
    have eC : gC M ys s = ys := gC_same (by omega)
    have eB : gB M ys s sn = false := by unfold gB; rw [if_neg (by omega), if_neg (by omega)]
    have eS : gS a M ns ys s sn = swF (lv M) (gt ys sn.length) s := by unfold gS; rw [if_neg (by omega), if_neg (by omega), if_neg (by omega), if_neg (by omega), if_pos q1, e]
    have eN : gN M ys s sn = if fb (gt ys sn.length) 32 = true then [] else sn ++ [gt ys sn.length] := by unfold gN; rw [if_pos q1, e]
    rw [eC, eB, eS, eN, he]
    refine ⟨fun _ => rfl, (fun h => by cases h), ?_⟩
    have happ : ∀ j, j < sn.length + 1 → Snc N (gt (sn ++ [gt ys sn.length]) j) (gt ys j) := fun j hj => by
      rw [gt_app]
      split
      · rename_i h1; exact hs j h1
      · rw [if_pos (by omega), show j = sn.length by omega]; exact .inl rfl
    unfold swF
    cases hb : fb (gt ys sn.length) 32 with
    | true => rw [if_pos rfl]; exact .inl ⟨rfl, .inr (.inr rfl)⟩
    | false =>
      rw [if_neg Bool.false_ne_true, if_neg Bool.false_ne_true]
      split
      · exact .inr (.inl ⟨rfl, q1, fun j hj => happ j (by simpa using hj)⟩)
      · refine .inr (.inr (.inl ⟨rfl, 0, rfl, rfl, ?_⟩))
        by_cases hall : ∀ j, j < lv M → gt ys j = gt (sn ++ [gt ys sn.length]) j
        · refine .inl ?_
          rw [hf, full_leaves fun i hi => ?_, Bool.or_true]
          rw [hall i hi]
          have hF := fls_snoc q4 (gt_lt hY.fit _) hb
          exact (hF _ (gt_mem (by simp; omega))).2
        · refine .inr ?_
          have : ∃ j, j < lv M ∧ ¬ gt ys j = gt (sn ++ [gt ys sn.length]) j := by
            by_cases h : ∃ j, j < lv M ∧ ¬ gt ys j = gt (sn ++ [gt ys sn.length]) j
            · exact h
            · exact absurd (fun j hj => Decidable.byContradiction fun hne => h ⟨j, hj, hne⟩) hall
          obtain ⟨j, hj, hne⟩ := this
          exact ⟨j, Nat.zero_le _, hj, (happ j (by omega)).resolve_left hne⟩
  | again sn t q1 q2 q3 q4 q5 =>
    have hO2 : eff = 0 ∧ (full = true ∨ ∃ j, t ≤ j ∧ j < lv M ∧ Chd N (gt sn j) (gt ys j)) := by
      rcases hO with h | h | ⟨h1, t2, h2, h3, h4⟩ | h
      · omega
      · omega
      · obtain rfl : t2 = t := by omega
        exact ⟨h1, h4⟩
      · omega
    obtain ⟨he, hs⟩ := hO2
    have hs2 : full2 = true ∨ ∃ j, t ≤ j ∧ j < lv M ∧ Chd N (gt sn j) (gt ys j) := hs.elim (fun h => .inl (by rw [hf, h]; rfl)) .inr
    have e : s.at_.toNat = t := by rw [q2, Int.toNat_natCast]
    have eC : gC M ys s = ys := gC_same (by omega)
    have eS : gS a M ns ys s sn = swA (lv M) (gt ys t) (gt sn t) s := by unfold gS; rw [if_neg (by omega), if_neg (by omega), if_neg (by omega), if_neg (by omega), if_neg (by omega), if_pos q1, e]
    have eN : gN M ys s sn = if gt ys t = gt sn t then (if s.at_ + 1 < (lv M : Int) then sn else []) else [] := by unfold gN; rw [if_neg (by omega), if_pos q1, e]
    have eB : gB M ys s sn = swAB (lv M) (gt ys t) (gt sn t) s := by unfold gB; rw [if_neg (by omega), if_pos q1, e]
    rw [eC, eS, eN, eB, he]
    refine ⟨fun _ => rfl, ?_⟩
    unfold swA swAB
    by_cases hx : gt ys t = gt sn t
    · rw [if_pos hx, if_pos hx, decide_eq_true hx, Bool.true_and]
      have hsn : gt sn t < U64 := (q5 _ (gt_mem (by omega))).1
      have hs3 : full2 = true ∨ ∃ j, t + 1 ≤ j ∧ j < lv M ∧ Chd N (gt sn j) (gt ys j) := hs2.elim .inl fun ⟨j, j1, j2, j3⟩ => .inr ⟨j, by
        rcases Nat.lt_or_ge t j with h | h
        · exact h
        · have ej : j = t := by omega
          subst ej
          exact absurd hx (j3.ne hN hsn), j2, j3⟩
      by_cases hlt : s.at_ + 1 < (lv M : Int)
      · rw [if_pos hlt, if_pos hlt, decide_eq_false (by omega)]
        exact ⟨(fun h => by cases h), .inr (.inr (.inl ⟨rfl, t + 1, q1, by show s.at_ + 1 = _; omega, hs3⟩))⟩
      · rw [if_neg hlt, if_neg hlt, decide_eq_true hlt]
        have hfull : full2 = true := hs3.resolve_right fun ⟨j, j1, j2, _⟩ => by omega
        exact ⟨fun _ => ⟨rfl, .inr ⟨rfl, hfull⟩⟩, .inr (.inr (.inr ⟨rfl, .inr (.inr rfl)⟩))⟩
    · rw [if_neg hx, if_neg hx, decide_eq_false hx, Bool.false_and]
      exact ⟨(fun h => by cases h), .inr (.inl ⟨rfl, rfl, fun j hj => absurd hj (by simp)⟩)⟩
theorem go_most {full : Bool} {eff : Nat} (h : GO M N ys s sn full eff) : eff ≤ 1 ∧ (s.phase = 0 → eff = 1) := by
  rcases h with h | h | ⟨_, t, h, _⟩ | h <;> omega
/-- The first cells. -/
theorem yi_start : YI M zs (cl (nw M zs) (lv M) (tv M) (lv M)) ∧ os (uf zs (cl (nw M zs) (lv M) (tv M) (lv M))) M = [] := by
  have hg : ∀ i, i < lv M → gt (cl (nw M zs) (lv M) (tv M) (lv M)) i = nw M zs i := fun i hi => by
    rw [gt_cl (by omega)]
    unfold cel
    rw [if_pos hi, if_pos hi]
  refine ⟨⟨cl_len _ _ _ _, cl_fit (nw_lt M zs) _ _ _, fun i b hi hb hn => ?_⟩, ?_⟩
  · rw [hg i hi, nw_bit, hn, decide_eq_true hb]; rfl
  · refine (ris_os _ _).ext Ris.nil fun z => ⟨fun h => ?_, fun h => by cases h⟩
    obtain ⟨i, hi, hu, _⟩ := mem_os.1 h
    unfold uf at hu
    rw [hg (i / 32) (by unfold lv; omega), nw_bit] at hu
    unfold nf at hu
    rw [show 32 * (i / 32) + i % 32 = i by omega, decide_eq_false (by omega : ¬ M ≤ i)] at hu
    simp at hu
    rw [hu.1.2] at hu
    exact absurd hu.2 (by simp)
end
end Go.Proofs.YtghecdccdmeooaaGreat

/-
  The anchor of layer 17's laws answers true.
-/
namespace Go.Proofs.YtghecdccdmeooaaGreat
set_option maxRecDepth 100000
set_option maxRecDepth 100000
open Go.RowKit
set_option linter.unusedVariables false
theorem much30 : Much 4 30 4 := ⟨by decide +kernel, by decide +kernel⟩
/-- The grant of the anchor, step by step: the cells, the operation, what it has seen. -/
def aw : Nat → List Nat × Sc × List Nat
  | 0 => (cl (nw 4 []) (lv 4) (tv 4) (lv 4), gS0 0, [])
  | j + 1 => (gC 4 (aw j).1 (aw j).2.1, gS 4 4 1 (aw j).1 (aw j).2.1 (aw j).2.2, gN 4 (aw j).1 (aw j).2.1 (aw j).2.2)
theorem aw_inv : ∀ j, GI 4 1 [] j (aw j).2.1 (aw j).2.2 ∧ YI 4 [] (aw j).1
  | 0 => ⟨gi_start (by omega) (by omega), yi_start.1⟩
  | j + 1 => gi_step (by omega) (by omega) (by omega) (aw_inv j).1 (aw_inv j).2
theorem aw_go : ∀ j, j < 4 → (aw j).2.1.phase ≠ 0 ∧ gB 4 (aw j).1 (aw j).2.1 (aw j).2.2 = decide (j = 3)
  | 0, _ => by decide +kernel
  | 1, _ => by decide +kernel
  | 2, _ => by decide +kernel
  | 3, _ => by decide +kernel
theorem aw_end : (aw 4).2.1.phase = 0 ∧ (aw 4).2.1.aad = 4 ∧ gt (aw 4).1 0 = 8589934577 := by decide +kernel
theorem aw_cells (w : World) : Calls Tryz.prog 11 #[.agg #[.int .u32 4, .int .i64 30, .slice none 0 0, .int .i64 1, .int .i64 1, .int .i64 1, .int .i64 1]] w (RetSM 3 (aw 0).1 w) :=
  wcells_new (a := 4) (M := 4) (lo := 0) (by omega) much30 (IS.none_ _ _ _) (by omega) (by decide +kernel)
theorem aw_step {w : World} {lo d : Nat} {B : Option Addr} {h : Hd} (j : Nat) (hj : j ≤ 60000) (hU : US w B 3 d (aw j).1) (hL : Lists lo w h (gl (aw j).2.2)) :
    Calls Tryz.prog 13 #[.agg #[.int .u32 4, .int .i64 30, .slice none 0 0, .int .i64 1, .int .i64 1, .int .i64 1, .int .i64 1], .slice B 3 d, .agg (opv h (aw j).2.1)] w (RetG (aw (j + 1)).2.1 (gl (aw (j + 1)).2.2) 3 (aw (j + 1)).1 (gB 4 (aw j).1 (aw j).2.1 (aw j).2.2) B w) :=
  gstep_any (a := 4) (M := 4) (ns := 1) (zs := []) (N := j) (wo := 1) (qu := 1) (tr := 1) (A := none) (n := 0) (c := 0) (by omega) much30 (by omega) (by omega) hj (aw_inv j).1 (aw_inv j).2 hU hL
def awE (j : Nat) : Nat := if j = 4 then 1 else 0
set_option maxRecDepth 100000 in
set_option maxHeartbeats 2000000 in
theorem awake_any (w : World) :
    Calls Tryz.prog 7 #[] w (RetBo true w) := by
  go_enter Tryz.func7, Tryz.ntmps7
  go_upto_region 1 with (fail)
  have L := Loc.start w
  go_upto_region 2 with (refine wpList_store_row rfl 27 (.tmp 1) (.tmp 11) rfl _ _ rfl (show _ = Value.agg (#[.int .u32 4, .int .i64 30, .slice none 0 0, .int .i64 1, .int .i64 1, .int .i64 1, .int .i64 1]) from rfl) _ _ (Bk.new _ _ _) cf_sz rfl (by simp [Value.oneCell']) ?_)
  try rw [World.setRow_alloc_new]
  replace L := (L).alloc #[.int .u32 4, .int .i64 30, .slice none 0 0, .int .i64 1, .int .i64 1, .int .i64 1, .int .i64 1] 27
  try simp only [World.size_alloc] at L
  try dsimp only [nput] at L
  generalize (w).alloc (.cells #[.int .u32 4, .int .i64 30, .slice none 0 0, .int .i64 1, .int .i64 1, .int .i64 1, .int .i64 1] 27) = w1 at L ⊢
  generalize w.heap.size = gC at L ⊢
  go_wp2_with (refine wpList_load_row rfl 27 (.tmp 1) rfl gC rfl _ _ (0, 0) _ (L.bk_ 0 rfl) Tryz.underlying27 rfl cf_sz ?_)
  refine (aw_cells _).mono ?_
  rintro e w2 ⟨gU, dU, rfl, U, hgU, K'⟩
  have Lb := L.lts
  replace L := L.over K'
  replace L := L.us_av (fun i b e b' o e' => by injection e' with e'; injection e' with e1; have := Lb i b e; omega) U
  clear Lb
  try dsimp only [lF, List.cons_append, List.nil_append] at L
  clear U hgU
  go_wp2_with fail
  refine (gbegin_any 0).mono ?_
  rintro e w3 ⟨rfl, K'⟩
  replace L := L.over K'
  go_upto_region 4 with (refine wpList_store_row rfl 40 (.tmp 3) (.tmp 14) rfl _ _ rfl (show _ = Value.agg (opv hd0 (gS0 0)) from rfl) _ _ (Bk.new _ _ _) op_sz rfl (opv_one _ _) ?_)
  try rw [World.setRow_alloc_new]
  replace L := (L).alloc (opv hd0 (gS0 0)) 40
  try simp only [World.size_alloc] at L
  try dsimp only [nput] at L
  generalize (w3).alloc (.cells (opv hd0 (gS0 0)) 40) = w4 at L ⊢
  generalize w3.heap.size = gO at L ⊢
  go_wp2
  replace L := L.gf0
  go_loopw [2, 4, 5, 6] (fun lv_ ev pv iv wr => ∃ (j : Nat) (h : Hd) (B : Option Addr) (d : Nat), j ≤ 4 ∧ lv_ = .slice B 3 d ∧ ev = .int .i64 (awE j : Nat) ∧ pv = .int .i64 (j : Nat) ∧ iv = .int .i64 (j : Nat) ∧ Loc w wr [(gO, 40, opv h (aw j).2.1), (gC, 27, #[.int .u32 4, .int .i64 30, .slice none 0 0, .int .i64 1, .int .i64 1, .int .i64 1, .int .i64 1])] [gF h (aw j).2.2, uF B 3 d (aw j).1]) (fun _ _ _ iv _ => 9 - (intOf iv).toNat)
  case atStart => exact ⟨0, hd0, _, _, by omega, rfl, rfl, rfl, rfl, L⟩
  case round =>
    clear L
    obtain ⟨j, h, B, d, hj, rfl, rfl, rfl, rfl, L⟩ := hrel
    by_cases hlt : j < 4
    · by_cases h3 : j = 3
      · have T := fun w lo h B d U H => Lib.hid (aw_step (w := w) (lo := lo) (h := h) (B := B) (d := d) j (by omega) U H)
        obtain ⟨hp, hb⟩ := aw_go j hlt
        rw [decide_eq_true h3] at hb
        simp only [hb] at T
        clear hb
        obtain ⟨e0, he0⟩ : ∃ e0 : Nat, e0 = awE j := ⟨_, rfl⟩
        rw [← he0]
        obtain ⟨s, hs⟩ : ∃ s, s = (aw j).2.1 := ⟨_, rfl⟩
        obtain ⟨y, hy⟩ : ∃ y, y = (aw j).1 := ⟨_, rfl⟩
        obtain ⟨sn, hn⟩ : ∃ sn, sn = (aw j).2.2 := ⟨_, rfl⟩
        simp only [← hs, ← hy, ← hn] at T L hp
        obtain ⟨s2, hs2⟩ : ∃ s2, s2 = (aw (j + 1)).2.1 := ⟨_, rfl⟩
        obtain ⟨y2, hy2⟩ : ∃ y2, y2 = (aw (j + 1)).1 := ⟨_, rfl⟩
        obtain ⟨n2, hn2⟩ : ∃ n2, n2 = (aw (j + 1)).2.2 := ⟨_, rfl⟩
        simp only [← hs2, ← hy2, ← hn2] at T
        replace hs2 := Lib.hid hs2
        replace hy2 := Lib.hid hy2
        replace hn2 := Lib.hid hn2
        clear hs hy hn
        have hp1 : (s.phase != 0) = true := by simp [hp]
        have hj9 : (j : Int) < 9 := by omega
        have e1 : IntKind.i64.wrap ((j : Int) + 1) = (j : Int) + 1 := IntWalk.i64_in _ (by omega)
        have he2 : ((awE (j + 1) : Nat) : Int) = (e0 : Int) + 1 := by rw [he0]; unfold awE; subst h3; rfl
        replace he2 := Lib.hid he2
        clear he0 hp h3
        have e2 : IntKind.i64.wrap ((e0 : Int) + 1) = (e0 : Int) + 1 := IntWalk.i64_in _ (by have := he2.out; unfold awE at this; split at this <;> omega)
        have O_8 := L.at_ 0 8 rfl (v := .int .i64 s.phase) rfl
        have O_z := L.lt 0 rfl
        go_wp2_with (first | (refine wpList_load_row rfl 27 (.tmp 1) rfl gC rfl _ _ (0, 0) _ (L.bk_ 1 rfl) Tryz.underlying27 rfl cf_sz ?_) | (refine wpList_load_row rfl 40 (.tmp 3) rfl gO rfl _ _ (0, 0) _ (L.bk_ 0 rfl) Tryz.underlying40 rfl op_sz ?_))
        refine ((T _ _ _ _ _ (L.us_ 1 rfl) (L.gf_ 0 rfl)).out).mono ?_
        rintro e w5 ⟨h2, B2, d2, rfl, U, L', hA, K'⟩
        clear O_8 O_z
        have Lb := L.lts
        replace L := L.over K'
        replace L := L.us_av (fun i b e => hA b.1 (Lb i b e) (L.ap_ 1 rfl (by omega) i b e)) U
        replace L := L.gf Lb L'
        clear Lb
        try dsimp only [lF, List.cons_append, List.nil_append] at L
        clear U L' hA
        go_upto_region 10 with (refine wpList_store_row rfl 40 (.tmp 8) (.tmp 30) rfl _ _ rfl (show _ = Value.agg (opv h2 s2) from rfl) _ _ (Bk.new _ _ _) op_sz rfl (opv_one _ _) ?_)
        try rw [World.setRow_alloc_new]
        replace L := (L).alloc (opv h2 s2) 40
        try simp only [World.size_alloc] at L
        try dsimp only [nput] at L
        generalize (w5).alloc (.cells (opv h2 s2) 40) = w6 at L ⊢
        generalize w5.heap.size = gP at L ⊢
        go_upto_region 14 with (first | (refine wpList_load_row rfl 40 (.tmp 8) rfl gP rfl _ _ (0, 0) _ (L.bk_ 0 rfl) Tryz.underlying40 rfl op_sz ?_) | (refine wpList_store_row rfl 40 (.tmp 3) (.tmp 36) rfl gO _ rfl rfl _ _ (L.bk_ 1 rfl) op_sz rfl (opv_one _ _) ?_))
        replace L := (L.row 1 rfl (opv h2 s2))
        try dsimp only [nput] at L
        generalize (w6).setRow gO (opv h2 s2) = w7 at L ⊢
        go_wp2
        replace L := L.only (fs' := [gF h2 n2, uF B2 3 d2 y2]) (by simp)
        replace L := L.del 0
        dsimp only [ndel] at L
        go_roundw
        case rel => rw [hs2.out, hy2.out, hn2.out] at L; exact ⟨j + 1, h2, B2, d2, by omega, rfl, by rw [he2.out], by go_num, by go_num, L⟩
        case measure => simp [intOf]; omega
      · have T := fun w lo h B d U H => Lib.hid (aw_step (w := w) (lo := lo) (h := h) (B := B) (d := d) j (by omega) U H)
        obtain ⟨hp, hb⟩ := aw_go j hlt
        rw [decide_eq_false h3] at hb
        simp only [hb] at T
        clear hb
        obtain ⟨e0, he0⟩ : ∃ e0 : Nat, e0 = awE j := ⟨_, rfl⟩
        rw [← he0]
        obtain ⟨s, hs⟩ : ∃ s, s = (aw j).2.1 := ⟨_, rfl⟩
        obtain ⟨y, hy⟩ : ∃ y, y = (aw j).1 := ⟨_, rfl⟩
        obtain ⟨sn, hn⟩ : ∃ sn, sn = (aw j).2.2 := ⟨_, rfl⟩
        simp only [← hs, ← hy, ← hn] at T L hp
        obtain ⟨s2, hs2⟩ : ∃ s2, s2 = (aw (j + 1)).2.1 := ⟨_, rfl⟩
        obtain ⟨y2, hy2⟩ : ∃ y2, y2 = (aw (j + 1)).1 := ⟨_, rfl⟩
        obtain ⟨n2, hn2⟩ : ∃ n2, n2 = (aw (j + 1)).2.2 := ⟨_, rfl⟩
        simp only [← hs2, ← hy2, ← hn2] at T
        replace hs2 := Lib.hid hs2
        replace hy2 := Lib.hid hy2
        replace hn2 := Lib.hid hn2
        clear hs hy hn
        have hp1 : (s.phase != 0) = true := by simp [hp]
        have hj9 : (j : Int) < 9 := by omega
        have e1 : IntKind.i64.wrap ((j : Int) + 1) = (j : Int) + 1 := IntWalk.i64_in _ (by omega)
        have he2 : ((awE (j + 1) : Nat) : Int) = (e0 : Int) := by rw [he0]; unfold awE; rw [if_neg (by omega), if_neg (by omega)]
        replace he2 := Lib.hid he2
        clear he0 hp h3
        have O_8 := L.at_ 0 8 rfl (v := .int .i64 s.phase) rfl
        have O_z := L.lt 0 rfl
        go_wp2_with (first | (refine wpList_load_row rfl 27 (.tmp 1) rfl gC rfl _ _ (0, 0) _ (L.bk_ 1 rfl) Tryz.underlying27 rfl cf_sz ?_) | (refine wpList_load_row rfl 40 (.tmp 3) rfl gO rfl _ _ (0, 0) _ (L.bk_ 0 rfl) Tryz.underlying40 rfl op_sz ?_))
        refine ((T _ _ _ _ _ (L.us_ 1 rfl) (L.gf_ 0 rfl)).out).mono ?_
        rintro e w5 ⟨h2, B2, d2, rfl, U, L', hA, K'⟩
        clear O_8 O_z
        have Lb := L.lts
        replace L := L.over K'
        replace L := L.us_av (fun i b e => hA b.1 (Lb i b e) (L.ap_ 1 rfl (by omega) i b e)) U
        replace L := L.gf Lb L'
        clear Lb
        try dsimp only [lF, List.cons_append, List.nil_append] at L
        clear U L' hA
        go_upto_region 10 with (refine wpList_store_row rfl 40 (.tmp 8) (.tmp 30) rfl _ _ rfl (show _ = Value.agg (opv h2 s2) from rfl) _ _ (Bk.new _ _ _) op_sz rfl (opv_one _ _) ?_)
        try rw [World.setRow_alloc_new]
        replace L := (L).alloc (opv h2 s2) 40
        try simp only [World.size_alloc] at L
        try dsimp only [nput] at L
        generalize (w5).alloc (.cells (opv h2 s2) 40) = w6 at L ⊢
        generalize w5.heap.size = gP at L ⊢
        go_upto_region 14 with (first | (refine wpList_load_row rfl 40 (.tmp 8) rfl gP rfl _ _ (0, 0) _ (L.bk_ 0 rfl) Tryz.underlying40 rfl op_sz ?_) | (refine wpList_store_row rfl 40 (.tmp 3) (.tmp 36) rfl gO _ rfl rfl _ _ (L.bk_ 1 rfl) op_sz rfl (opv_one _ _) ?_))
        replace L := (L.row 1 rfl (opv h2 s2))
        try dsimp only [nput] at L
        generalize (w6).setRow gO (opv h2 s2) = w7 at L ⊢
        go_wp2
        replace L := L.only (fs' := [gF h2 n2, uF B2 3 d2 y2]) (by simp)
        replace L := L.del 0
        dsimp only [ndel] at L
        go_roundw
        case rel => rw [hs2.out, hy2.out, hn2.out] at L; exact ⟨j + 1, h2, B2, d2, by omega, rfl, by rw [he2.out], by go_num, by go_num, L⟩
        case measure => simp [intOf]; omega
    · obtain rfl : j = 4 := by omega
      obtain ⟨q1, q2, q3⟩ := aw_end
      obtain ⟨e0, he0⟩ : ∃ e0 : Nat, e0 = awE 4 := ⟨_, rfl⟩
      rw [← he0]
      obtain ⟨s, hs⟩ : ∃ s, s = (aw 4).2.1 := ⟨_, rfl⟩
      obtain ⟨y, hy⟩ : ∃ y, y = (aw 4).1 := ⟨_, rfl⟩
      obtain ⟨sn, hn⟩ : ∃ sn, sn = (aw 4).2.2 := ⟨_, rfl⟩
      simp only [← hs, ← hy, ← hn] at L q1 q2 q3
      clear hs hy hn
      have hp1 : (s.phase != 0) = false := by rw [q1]; rfl
      obtain rfl : e0 = 1 := he0
      clear hlt hj
      obtain ⟨bb, oo, hBe, hbb, hcc⟩ := (L.us_ 1 rfl).get (show 0 < 3 by omega)
      subst hBe
      have hX : wr.cell? ⟨bb, oo, none⟩ = some (.int .u64 8589934577) := by rw [Nat.add_zero, q3] at hcc; exact hcc
      clear hcc q3
      have O_8 := L.at_ 0 8 rfl (v := .int .i64 s.phase) rfl
      have O_z := L.lt 0 rfl
      have O_4 := L.at_ 0 4 rfl (v := .int .u32 4) (by show some (Value.int .u32 s.aad) = _; rw [q2])
      have O_8 := L.at_ 0 8 rfl (v := .int .i64 0) (by show some (Value.int .i64 s.phase) = _; rw [q1])
      have O_z := L.lt 0 rfl
      have X := hX
      go_wp2_with fail
      clear O_8 O_z O_4 X
      go_ret
      exact ⟨rfl, L.K⟩
end Go.Proofs.YtghecdccdmeooaaGreat
