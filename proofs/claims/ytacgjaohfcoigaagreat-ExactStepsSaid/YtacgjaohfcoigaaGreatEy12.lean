/-
  What the functions that these laws call answer, and what follows of it; conditions: those that each theorem names. In this file: ModelMath, ModelRow, ModelAddrs, ModelRefs, GrantRun, ExactMath, AskMath, AskLib, AskNames, AskCheck, AskRefs, ExactR0, MarkR, ClaimX.
-/
import Derived.Test.YtacgjaohfcoigaaGreatEy11
import Derived.Lib.AppendZerosOnto
import Derived.Lib.Walk
/-
  Sets as rising lists of integers: an offset put in, or taken away, is told by what is in alone; where an offset stands; when a list is a set that may be, and all of it; the set that a test tells. No program in it.
-/
namespace Go.Proofs.YtacgjaohfcoigaaGreat
set_option maxRecDepth 100000
def Ris (xs : List Int) : Prop := xs.Pairwise (· < ·)
theorem Ris.ext {xs ys : List Int} (hx : Ris xs) (hy : Ris ys) (h : ∀ z, z ∈ xs ↔ z ∈ ys) : xs = ys := by
  induction xs generalizing ys with
  | nil =>
    cases ys with
    | nil => rfl
    | cons y t => have := (h y).2 (by simp); cases this
  | cons x r ih =>
    cases ys with
    | nil => have := (h x).1 (by simp); cases this
    | cons y t =>
      obtain ⟨hx1, hx2⟩ := List.pairwise_cons.1 hx
      obtain ⟨hy1, hy2⟩ := List.pairwise_cons.1 hy
      have e : x = y := by
        have h1 := (h x).1 (by simp)
        have h2 := (h y).2 (by simp)
        rcases List.mem_cons.1 h1 with h1 | h1
        · exact h1
        · rcases List.mem_cons.1 h2 with h2 | h2
          · exact h2.symm
          · have := hx1 _ h2
            have := hy1 _ h1
            omega
      subst e
      congr 1
      refine ih hx2 hy2 fun z => ⟨fun hz => ?_, fun hz => ?_⟩
      · rcases List.mem_cons.1 ((h z).1 (List.mem_cons_of_mem _ hz)) with e | g
        · have := hx1 _ hz; omega
        · exact g
      · rcases List.mem_cons.1 ((h z).2 (List.mem_cons_of_mem _ hz)) with e | g
        · have := hy1 _ hz; omega
        · exact g
theorem Ris.lt {xs : List Int} (h : Ris xs) {i j : Nat} (hij : i < j) (hj : j < xs.length) : gi xs i < gi xs j := by
  rw [gi_at (by omega), gi_at hj]
  exact List.pairwise_iff_getElem.1 h i j (by omega) hj hij
theorem Ris.le {xs : List Int} (h : Ris xs) {i j : Nat} (hij : i ≤ j) (hj : j < xs.length) : gi xs i ≤ gi xs j := by
  rcases Nat.lt_or_ge i j with g | g
  · have := h.lt g hj; omega
  · obtain rfl : i = j := by omega
    exact Int.le_refl _
theorem Ris.nil : Ris [] := List.Pairwise.nil
/-- Those below x, and those above it. -/
def lo_ (xs : List Int) (x : Int) : List Int := xs.filter fun y => decide (y < x)
def hi_ (xs : List Int) (x : Int) : List Int := xs.filter fun y => decide (x < y)
def del (xs : List Int) (x : Int) : List Int := xs.filter fun y => decide (y ≠ x)
def at_ (xs : List Int) (x : Int) : Nat := (lo_ xs x).length
theorem Ris.lo {xs : List Int} (h : Ris xs) (x : Int) : Ris (lo_ xs x) := List.Pairwise.filter _ h
theorem Ris.hi {xs : List Int} (h : Ris xs) (x : Int) : Ris (hi_ xs x) := List.Pairwise.filter _ h
theorem Ris.del {xs : List Int} (h : Ris xs) (x : Int) : Ris (del xs x) := List.Pairwise.filter _ h
theorem Ris.two {xs ys : List Int} (hx : Ris xs) (hy : Ris ys) (h : ∀ a ∈ xs, ∀ b ∈ ys, a < b) : Ris (xs ++ ys) := List.pairwise_append.2 ⟨hx, hy, h⟩
theorem Ris.cons {x : Int} {ys : List Int} (hy : Ris ys) (h : ∀ b ∈ ys, x < b) : Ris (x :: ys) := List.pairwise_cons.2 ⟨h, hy⟩
/-- The set that a test tells, below k. -/
def os (f : Nat → Bool) : Nat → List Int
  | 0 => []
  | k + 1 => os f k ++ (if f k = true then [(k : Int)] else [])
theorem mem_os {f : Nat → Bool} {k : Nat} {z : Int} : z ∈ os f k ↔ ∃ i : Nat, i < k ∧ f i = true ∧ z = (i : Int) := by
  induction k with
  | zero => exact ⟨fun h => (by cases h), fun ⟨i, hi, _⟩ => by omega⟩
  | succ k ih =>
    rw [os, List.mem_append, ih]
    constructor
    · rintro (⟨i, h1, h2, h3⟩ | h)
      · exact ⟨i, by omega, h2, h3⟩
      · split at h
        · rename_i e
          exact ⟨k, by omega, e, by simpa using h⟩
        · cases h
    · rintro ⟨i, h1, h2, h3⟩
      rcases Nat.lt_or_ge i k with g | g
      · exact .inl ⟨i, g, h2, h3⟩
      · obtain rfl : i = k := by omega
        rw [if_pos h2]
        exact .inr (by simpa using h3)
theorem ris_os (f : Nat → Bool) (k : Nat) : Ris (os f k) := by
  induction k with
  | zero => exact Ris.nil
  | succ k ih =>
    rw [os]
    refine Ris.two ih ?_ ?_
    · split
      · exact List.pairwise_singleton _ _
      · exact Ris.nil
    · intro a ha b hb
      obtain ⟨i, h1, _, rfl⟩ := mem_os.1 ha
      split at hb
      · have : b = (k : Int) := by simpa using hb
        omega
      · cases hb
/-- Which offsets are used: bit set, not reserved. -/
def uf (hs : List Int) (ys : List Nat) (i : Nat) : Bool := (gt ys (i / 32)).testBit (i % 32) && !hasB hs (i : Int)
end Go.Proofs.YtacgjaohfcoigaaGreat

/-
  Rows of integers of the call's own: one more appended, a list appended, one made by appending where there is no room. Conditions: at most 65536 numbers.
-/
namespace Go.Proofs.YtacgjaohfcoigaaGreat
set_option maxRecDepth 100000
open Go.RowKit
theorem u32_info : (Tryz.prog.info? 22).map (fun i => (i.zero, i.size, i.bytes)) = some (some (Value.int .u32 0), 1, 4) := by kernel_rfl
section
variable {k : IntKind} {t : TypeId} {w w' : World} {base n c : Nat} {A : Option Addr} {v : Value} {xs : List Int}
end
section
variable {P : Program} {k : IntKind} {t e : TypeId} {i : TypeInfo}
/-- append onto a row of the call's own, whatever its numbers' bytes. -/
theorem run_app {w : World} {base lo : Nat} {B : Option Addr} {m d : Nat} {ys : List Int} {A : Option Addr} {n c : Nat} {xs : List Int} (ht : P.underlying t = some (.slice e)) (hi : P.info? e = some i) (hz : i.zero = some (.int k 0)) (hsize : i.size = 1) (hby : i.bytes ≤ 8)
    (hown : Ri k e w base (.slice B m d) m ys) (h : IS k lo w A n c xs) (hn : m + n ≤ 65536) (hbase : base ≤ w.heap.size) (ty : TypeId) :
    ∃ A' c' w', (Builtin.append_ #[t, t] ty #[.slice B m d, .slice A n c]).run P w = .ok (.slice A' (m + n) c') w' ∧ Ri k e w' base (.slice A' (m + n) c') (m + n) (ys ++ xs) ∧ Below base w w' := by
  have hl := h.len
  rcases A with _ | ad
  · obtain rfl := h.nil_ rfl
    obtain rfl : n = 0 := by have := h.cap; omega
    obtain rfl : xs = [] := List.eq_nil_of_length_eq_zero hl
    have hr := run_append_owned_none (P := P) w base t ty e i 1 ht hi _ m (ys.map (iv k)) hown
    exact ⟨B, d, w, hr, by rw [List.append_nil]; exact hown, Below.refl _ _⟩
  · have hcells : ∀ j u, (xs.map (iv k))[j]? = some u → w.cell? (ad.add j) = some u := by
      intro j u hu
      rcases Nat.eq_zero_or_pos n with h0 | h0
      · subst h0
        obtain rfl : xs = [] := List.eq_nil_of_length_eq_zero hl
        simp at hu
      · obtain ⟨ad', e', hc⟩ := h.src h0
        injection e' with e'
        subst e'
        exact hc j u hu
    have hb : (m + n) * i.bytes ≤ 140737488355328 := Nat.le_trans (Nat.mul_le_mul hn hby) (by omega)
    obtain ⟨v', w', hrun, h2, h3, _, h5⟩ := run_append_own_at (P := P) w base t ty e i _ 1 i.bytes ht hi hz hsize rfl rfl (by omega) _ m (ys.map (iv k)) hown ad n c (xs.map (iv k)) (by simp [hl]) hcells (iv_one k xs) (by unfold maxLen; omega) hb hbase
    rw [← List.map_append] at h2
    obtain ⟨A', c', rfl, _⟩ := IS.of_own h2
    exact ⟨A', c', w', hrun, h2, (Below.refl _ _).grown h3 hbase (own_ge hown)⟩
end
end Go.Proofs.YtacgjaohfcoigaaGreat

/-
  What Addrs of package model, and the document's, answer of a set that may be: its addresses; the program's lie in new memory; nothing that was there is otherwise. Conditions: offsets from 0 to 65536.
-/
namespace Go.Proofs.YtacgjaohfcoigaaGreat
set_option maxRecDepth 100000
open Go.RowKit
/-- The block g is just these numbers. -/
def Bi (k : IntKind) (w : World) (g : Nat) (t : TypeId) (xs : List Int) : Prop := Bk w g t (xs.map (iv k)).toArray
section
variable {k : IntKind} {w w' : World} {g : Nat} {t : TypeId} {xs : List Int}
theorem Bi.cell (h : Bi k w g t xs) {i : Nat} (hi : i < xs.length) : w.cell? ⟨g, i, none⟩ = some (.int k (gi xs i)) := by
  refine Bk.at_ h i ?_
  rw [gi_at hi]
  simp [iv, hi]
theorem Bi.below (h : Bi k w g t xs) (K : Below w.heap.size w w') : Bi k w' g t xs := Bk.below h K
theorem Bi.set_ (h : Bi k w g t xs) (i : Nat) (v : Int) : Bi k (w.setCell ⟨g, i, none⟩ (.int k v)) g t (xs.set i v) := by
  have := Bk.set_ h i (.int k v)
  unfold Bi
  rw [List.map_set]
  simpa [iv] using this
theorem Bi.is {n : Nat} (h : Bi k w g t xs) (hn : xs.length = n) (hm : n ≤ 65536) : IS k 0 w (some ⟨g, 0, none⟩) n n xs :=
  ⟨hn, Nat.le_refl _, by unfold maxLen; omega, (fun e => by cases e), fun _ => ⟨g, 0, rfl, Nat.zero_le _, Bk.lt h, fun j hj => by rw [Nat.zero_add]; exact h.cell (by omega)⟩⟩
theorem Bi.of_made {base n : Nat} (h : w.ownsRow base t 1 (.slice (some ⟨g, 0, none⟩) n n) n (madeCells (Value.int k 0).cells (n * 1)).toList) : Bi k w g t (List.replicate n 0) := by
  rcases h.2 with ⟨hv, _⟩ | ⟨g', cap, cur, hv, hb, hh, hnc, hcm, hcs, ht⟩
  · cases hv
  · injection hv with h1 h2 h3
    injection h1 with h1
    injection h1 with h1
    subst h1; subst h3
    unfold Bi Bk
    rw [hh]
    have e : cur.toList = (madeCells (Value.int k 0).cells (n * 1)).toList := by
      rw [← ht, List.take_of_length_le (by simp; omega)]
    have e2 : (madeCells (Value.int k 0).cells (n * 1)).toList = (List.replicate n 0).map (iv k) := by
      simp only [madeCells, Value.cells, iv, Nat.mul_one, Array.toList_map, Array.toList_range, List.map_replicate]
      apply List.ext_getElem (by simp)
      intro i h1 h2
      have e1 : i % 1 = 0 := by omega
      simp [e1]
    have e3 : cur = ((List.replicate n 0).map (iv k)).toArray := by rw [← e2, ← e]
    rw [e3]
end
/-- An offset's address. -/
def ad (a : Nat) (x : Int) : Int := ((a + x.toNat) % 4294967296 : Nat)
def ads (a : Nat) (xs : List Int) : List Int := xs.map (ad a)
section
variable {w : World} {lo a M : Nat} {p sh wo qu tr : Int} {A B : Option Addr} {n c m d : Nat} {xs : List Int}
end
end Go.Proofs.YtacgjaohfcoigaaGreat

/-
  What the document's own sets answer (Rises, Has, With, Without, Ints, Addrs held against one another): the same as the program's; nothing that was there is otherwise. Conditions: at most 65535 numbers.
-/
namespace Go.Proofs.YtacgjaohfcoigaaGreat
set_option maxRecDepth 100000
open Go.RowKit
section
variable {w : World} {lo lo' : Nat} {A A' : Option Addr} {n n' c c' : Nat} {xs : List Int}
theorem IS.here {k : IntKind} {b o : Nat} (h : IS k lo w (some ⟨b, o, none⟩) n c xs) {j : Nat} (hj : j < n) : w.cell? ⟨b, o + j, none⟩ = some (.int k (gi xs j)) := by
  obtain ⟨b', o', e, _, hc⟩ := h.get hj
  injection e with e
  injection e with e1 e2
  subst e1 e2
  exact hc
end
end Go.Proofs.YtacgjaohfcoigaaGreat

/-
  A grant alone, and a grant between whatever others do: what is left to do, and what it comes to. No program in it.
-/
namespace Go.Proofs.YtacgjaohfcoigaaGreat
set_option maxRecDepth 100000
set_option maxRecDepth 100000
open Go.RowKit
set_option linter.unusedVariables false
section
variable {a M ns N : Nat} {zs : List Int} {ys ys0 ys2 : List Nat} {s : Sc} {sn : List Nat}
/-- A word, changed so often at most. -/
def Chd (n x y : Nat) : Prop := ∃ d, 1 ≤ d ∧ d ≤ n ∧ cg y = (cg x + d) % 4294967296
def Snc (n x y : Nat) : Prop := y = x ∨ Chd n x y
theorem Chd.more {n n' x y : Nat} (h : Chd n x y) (hn : n ≤ n') : Chd n' x y := by
  obtain ⟨d, h1, h2, h3⟩ := h
  exact ⟨d, h1, by omega, h3⟩
theorem Chd.one {n x y z : Nat} (h : Chd n x y) (hz : cg z = (cg y + 1) % 4294967296) : Chd (n + 1) x z := by
  obtain ⟨d, h1, h2, h3⟩ := h
  exact ⟨d + 1, by omega, by omega, by rw [hz, h3]; omega⟩
theorem Chd.ne {n x y : Nat} (hn : n < 4294967296) (hx : x < U64) (h : Chd n x y) : y ≠ x := by
  obtain ⟨d, h1, h2, h3⟩ := h
  intro e
  subst e
  have := cg_lt hx
  omega
theorem Snc.one {n x y z : Nat} (h : Snc n x y) (hz : z = y ∨ cg z = (cg y + 1) % 4294967296) : Snc (n + 1) x z := by
  rcases h with rfl | h
  · rcases hz with rfl | hz
    · exact .inl rfl
    · exact .inr ⟨1, Nat.le_refl _, by omega, hz⟩
  · rcases hz with rfl | hz
    · exact .inr (h.more (by omega))
    · exact .inr (h.one hz)
/-- What others do changes a leaf once at most, and leaves what can't be free. -/
theorem dist_leaf (hM : M ≤ 65536) (hY : YI M zs ys) (hD : DistR M zs ys ys2) : YI M zs ys2 ∧ ∀ i, i < lv M → gt ys2 i = gt ys i ∨ cg (gt ys2 i) = (cg (gt ys i) + 1) % 4294967296 := by
  have bits : ∀ o b, o < M → hasB zs (o : Int) = false → nf M zs (o / 32) b = true → b ≠ o % 32 := fun o b ho hh hn e => by
    subst e
    unfold nf at hn
    rw [show 32 * (o / 32) + o % 32 = o by omega, hh, Bool.or_false, decide_eq_true_eq] at hn
    omega
  rcases hD with ⟨o, h1, h2, h3, rfl⟩ | ⟨o, h1, h2, h3, rfl⟩ | ⟨i, W, h1, h2, rfl⟩ | rfl
  · have hi : o / 32 < lv M := by unfold lv; omega
    refine ⟨hY.leaf hi (drp_lt _ _) fun b hb hn => ?_, fun i hi' => ?_⟩
    · rw [drp_bit (gt_lt hY.fit _) (Nat.mod_lt _ (by omega)) hb, hY.top _ b hi hb hn]
      have := bits o b h1 h2 hn
      simp; omega
    · rw [gt_set (by have := hY.len; omega)]
      split
      · rename_i e; subst e; exact .inr (cg_drp (gt_lt hY.fit _) (Nat.mod_lt _ (by omega)))
      · exact .inl rfl
  · have hi : o / 32 < lv M := by unfold lv; omega
    refine ⟨hY.leaf hi (clm_lt _ _) fun b hb hn => ?_, fun i hi' => ?_⟩
    · rw [clm_bit _ _ hb, hY.top _ b hi hb hn]; rfl
    · rw [gt_set (by have := hY.len; omega)]
      split
      · rename_i e; subst e; exact .inr (cg_clm _ (Nat.mod_lt _ (by omega)))
      · exact .inl rfl
  · exact ⟨hY.sum h1 h2, fun j hj => .inl (gt_sum h1 hj)⟩
  · exact ⟨hY, fun j hj => .inl rfl⟩
/-- The first cells. -/
theorem yi_start : YI M zs (cl (nw M zs) (lv M) (tv M) (lv M)) ∧ os (uf zs (cl (nw M zs) (lv M) (tv M) (lv M))) M = [] := by
  have hg : ∀ i, i < lv M → gt (cl (nw M zs) (lv M) (tv M) (lv M)) i = nw M zs i := fun i hi => by
    rw [gt_cl (by omega)]
    unfold cel
    rw [if_pos hi, if_pos hi]
  refine ⟨⟨cl_len _ _ _ _, cl_fit (nw_lt M zs) _ _ _, fun i b hi hb hn => ?_⟩, ?_⟩
  · rw [hg i hi, nw_bit, hn, decide_eq_true hb]; rfl
  · refine (ris_os _ _).ext Ris.nil fun z => ⟨fun h => ?_, fun h => by cases h⟩
    obtain ⟨i, hi, hu, _⟩ := mem_os.1 h
    unfold uf at hu
    rw [hg (i / 32) (by unfold lv; omega), nw_bit] at hu
    unfold nf at hu
    rw [show 32 * (i / 32) + i % 32 = i by omega, decide_eq_false (by omega : ¬ M ≤ i)] at hu
    simp at hu
    rw [hu.1.2] at hu
    exact absurd hu.2 (by simp)
end
end Go.Proofs.YtacgjaohfcoigaaGreat

/-
  An exact grant, or a question, step by step, as functions of numbers and lists; what holds of it whatever others do between. No program in it.
-/
namespace Go.Proofs.YtacgjaohfcoigaaGreat
set_option maxRecDepth 100000
set_option maxRecDepth 100000
open Go.RowKit
set_option linter.unusedVariables false
def usdS (s : Sc) : Sc := ⟨s.kind, s.addr, 5, s.aad, s.used, 0, s.shard, s.sought, s.leaf, s.bit, s.word, s.full, s.at_, s.tries, s.item, s.stamp⟩
def tkS (s : Sc) (x : Nat) : Sc := ⟨s.kind, s.addr, s.err, s.aad, s.used, 3, s.shard, s.sought, s.leaf, s.bit, x, s.full, s.at_, s.tries, s.item, s.stamp⟩
def qyS (s : Sc) (b : Bool) : Sc := ⟨s.kind, s.addr, s.err, s.aad, b, 0, s.shard, s.sought, s.leaf, s.bit, s.word, s.full, s.at_, s.tries, s.item, s.stamp⟩
/-- A step that read x. -/
def xkS (x : Nat) (s : Sc) : Sc := if s.kind = 2 then (if x.testBit s.bit.toNat = true then usdS s else tkS s x) else qyS s (x.testBit s.bit.toNat)
def eS (a M : Nat) (ys : List Nat) (s : Sc) : Sc :=
  if s.phase = 8 then xkS (gt ys s.leaf.toNat) s
  else if s.phase = 3 then claimS a 0 [] (gt ys s.leaf.toNat) s
  else if s.phase = 4 ∨ s.phase = 5 then stO a M 0 [] ys s
  else s
def eB (ys : List Nat) (s : Sc) : Bool :=
  if s.phase = 8 then !(decide (s.kind = 2) && !(gt ys s.leaf.toNat).testBit s.bit.toNat) else if s.phase = 3 then decide (gt ys s.leaf.toNat = s.word) else false
/-- It begins: its kind, its address, its offset. -/
def eS0 (k x : Int) (o : Nat) : Sc := ⟨k, x, 0, 0, false, 8, 0, 0, ((o / 32 : Nat) : Int), ((o % 32 : Nat) : Int), 0, false, 0, 0, 0, 0⟩
/-- Where it may be. -/
def EP (a o : Nat) (s : Sc) : Prop :=
  (s.phase = 8 ∧ s.err = 0) ∨
  (s.phase = 3 ∧ s.kind = 2 ∧ s.err = 0 ∧ s.word.testBit (o % 32) = false) ∨
  ((s.phase = 4 ∨ s.phase = 5) ∧ s.kind = 2 ∧ s.full = true ∧ (s.at_ = 0 ∨ s.at_ = 1) ∧ s.err = 0 ∧ s.aad = ((a + o : Nat) : Int)) ∨
  (s.phase = 0 ∧ (s.kind = 5 ∧ s.err = 0 ∨ s.kind = 2 ∧ s.err = 5 ∨ s.kind = 2 ∧ s.err = 0 ∧ s.aad = ((a + o : Nat) : Int)))
structure EI (a M : Nat) (zs : List Int) (o : Nat) (s : Sc) : Prop where
  oM : o < M
  hh : hasB zs (o : Int) = false
  kd : s.kind = 2 ∨ s.kind = 5
  lf : s.leaf = ((o / 32 : Nat) : Int)
  bt : s.bit = ((o % 32 : Nat) : Int)
  it : s.item = 0
  wd : s.word < 18446744073709551616
  ph : EP a o s
section
variable {a M N o n : Nat} {zs xs : List Int} {ys ys0 ys2 : List Nat} {s : Sc}
theorem gon_no (h : s.kind ≠ 4) : gon a n xs s = ende s := by
  unfold gon fur
  rw [if_neg (by simp [h])]
theorem dn_no {s : Sc} (h : s.kind ≠ 4) (hf : s.full = true) : dn a n xs s = ende s ∨ (s.at_ = 0 ∧ dn a n xs s = root_ s) := by
  unfold dn
  split
  · exact .inl (gon_no h)
  · rename_i h
    refine .inr ⟨?_, rfl⟩
    unfold ends_ at h
    simp at h
    exact h.1
theorem claimS_no (h : s.kind ≠ 4) (x : Nat) : claimS a n xs x s = claimS a 0 [] x s := by
  unfold claimS
  rw [gon_no (show (adS s _).kind ≠ 4 from h), gon_no (show (adS s _).kind ≠ 4 from h)]
theorem dn_none {s : Sc} (h : s.kind ≠ 4) : dn a n xs s = dn a 0 [] s := by
  unfold dn
  rw [gon_no h, gon_no h]
theorem stO_no (h : s.kind ≠ 4) : stO a M n xs ys s = stO a M 0 [] ys s := by
  have e : ∀ x, dn a n xs (worded s x) = dn a 0 [] (worded s x) := fun x => dn_none (show (worded s x).kind ≠ 4 from h)
  unfold stO lk
  rw [e, e]
theorem EI.k4 (h : EI a M zs o s) : s.kind ≠ 4 := by have := h.kd; omega
theorem EI.fl (h : EI a M zs o s) : s.leaf.toNat = o / 32 := by rw [h.lf, Int.toNat_natCast]
theorem EI.fb (h : EI a M zs o s) : s.bit.toNat = o % 32 := by rw [h.bt, Int.toNat_natCast]
theorem EI.le (h : EI a M zs o s) : o / 32 < lv M := by have := h.oM; unfold lv; omega
theorem ei_start {k x : Int} (hk : k = 2 ∨ k = 5) (ho : o < M) (hh : hasB zs (o : Int) = false) : EI a M zs o (eS0 k x o) := ⟨ho, hh, hk, rfl, rfl, rfl, by show 0 < _; omega, .inl ⟨rfl, rfl⟩⟩
/-- What a step comes to, by its Phase. -/
theorem es_read (h : s.phase = 8) : eS a M ys s = xkS (gt ys s.leaf.toNat) s ∧ gC M ys s = ys := by
  constructor
  · unfold eS; rw [if_pos h]
  · unfold gC; rw [if_neg (by omega), if_neg (by omega)]
theorem es_claim (h : s.phase = 3) : eS a M ys s = claimS a 0 [] (gt ys s.leaf.toNat) s ∧ gC M ys s = claimC ys s ∧ eB ys s = decide (gt ys s.leaf.toNat = s.word) := by
  refine ⟨?_, ?_, ?_⟩
  · unfold eS; rw [if_neg (by omega), if_pos h]
  · unfold gC; rw [if_pos h]
  · unfold eB; rw [if_neg (by omega), if_pos h]
theorem es_mark (h : s.phase = 4 ∨ s.phase = 5) : eS a M ys s = stO a M 0 [] ys s ∧ gC M ys s = stC M ys s ∧ eB ys s = false := by
  refine ⟨?_, ?_, ?_⟩
  · unfold eS; rw [if_neg (by omega), if_neg (by omega), if_pos h]
  · unfold gC; rw [if_neg (by omega), if_pos h]
  · unfold eB; rw [if_neg (by omega), if_neg (by omega)]
theorem es_done (h : s.phase = 0) : eS a M ys s = s ∧ gC M ys s = ys ∧ eB ys s = false := by
  refine ⟨?_, ?_, ?_⟩
  · unfold eS; rw [if_neg (by omega), if_neg (by omega), if_neg (by omega)]
  · unfold gC; rw [if_neg (by omega), if_neg (by omega)]
  · unfold eB; rw [if_neg (by omega), if_neg (by omega)]
/-- A step of marking a full leaf: where it is then. -/
theorem mark_go (hk : s.kind ≠ 4) (hp : s.phase = 4 ∨ s.phase = 5) (hf : s.full = true) (hat : s.at_ = 0 ∨ s.at_ = 1) (hwd : s.word < 18446744073709551616) (hb : bt s < 64) (hx : gt ys (hcel M s) < 18446744073709551616) :
    ∃ x, x < 18446744073709551616 ∧ (stO a M 0 [] ys s = ende (worded s x) ∨ (s.phase = 4 ∧ stO a M 0 [] ys s = setp (worded s x)) ∨ (s.at_ = 0 ∧ stO a M 0 [] ys s = root_ (worded s x))) := by
  unfold stO
  split
  · rename_i h4
    unfold lk
    split
    · refine ⟨_, hx, ?_⟩
      rcases dn_no (a := a) (n := 0) (xs := []) (s := worded s (gt ys (hcel M s))) hk hf with e | ⟨e0, e⟩
      · exact .inl e
      · exact .inr (.inr ⟨e0, e⟩)
    · exact ⟨_, hx, .inr (.inl ⟨h4, rfl⟩)⟩
  · refine ⟨mkd s.word (bt s) s.full, mkd_lt _ hwd hb, ?_⟩
    rcases dn_no (a := a) (n := 0) (xs := []) (s := worded s (mkd s.word (bt s) s.full)) hk hf with e | ⟨e0, e⟩
    · exact .inl e
    · exact .inr (.inr ⟨e0, e⟩)
theorem stC_yi (hM : M ≤ 65536) (hY : YI M zs ys) (hwd : s.word < 18446744073709551616) (hb : bt s < 64) : YI M zs (stC M ys s) := by
  have hcl : lv M ≤ hcel M s := by unfold hcel; split <;> omega
  unfold stC
  split
  · exact hY
  · split
    · exact hY.sum hcl (mkd_lt _ hwd hb)
    · exact hY
theorem ei_btl (hM : M ≤ 65536) (h : EI a M zs o s) : bt s < 64 := by
  have := h.fl
  have := h.le
  have := lv_le hM
  unfold bt
  split <;> omega
/-- A step of it. -/
theorem ei_step (hM : M ≤ 65536) (hfit : a + M ≤ 4294967296) (hE : EI a M zs o s) (hY : YI M zs ys) : EI a M zs o (eS a M ys s) ∧ YI M zs (gC M ys s) := by
  have fl := hE.fl
  have fb' := hE.fb
  have hle := hE.le
  have hbt := ei_btl hM hE
  have hk4 := hE.k4
  obtain ⟨oM, hh, kd, lf, bt', it, wd, ph⟩ := hE
  have hx64 : ∀ j, gt ys j < 18446744073709551616 := fun j => gt_lt hY.fit j
  rcases ph with ⟨p1, p2⟩ | ⟨p1, p2, p3, p4⟩ | ⟨p1, p2, p3, p4, p5, p6⟩ | ⟨p1, p2⟩
  · obtain ⟨e1, e2⟩ := es_read (a := a) (M := M) (ys := ys) p1
    rw [e1, e2]
    refine ⟨?_, hY⟩
    unfold xkS
    split
    · rename_i hk
      split
      · exact ⟨oM, hh, kd, lf, bt', it, wd, .inr (.inr (.inr ⟨rfl, .inr (.inl ⟨hk, rfl⟩)⟩))⟩
      · rename_i hb
        refine ⟨oM, hh, kd, lf, bt', it, hx64 _, .inr (.inl ⟨rfl, hk, p2, ?_⟩)⟩
        rw [fb'] at hb
        exact Bool.eq_false_iff.2 hb
    · rename_i hk
      exact ⟨oM, hh, kd, lf, bt', it, wd, .inr (.inr (.inr ⟨rfl, .inl ⟨by show s.kind = 5; omega, p2⟩⟩))⟩
  · obtain ⟨e1, e2, _⟩ := es_claim (a := a) (M := M) (ys := ys) p1
    rw [e1, e2, fl]
    have had : (adr a s.leaf.toNat s.bit.toNat : Int) = ((a + o : Nat) : Int) := by
      rw [fl, fb']; unfold adr; rw [Nat.mod_eq_of_lt (by omega)]; omega
    constructor
    · unfold claimS
      split
      · split
        · exact ⟨oM, hh, kd, lf, bt', it, by show 0 < _; omega, .inr (.inr (.inl ⟨.inl rfl, p2, rfl, .inl rfl, p3, had⟩))⟩
        · rw [gon_no (show (adS s _).kind ≠ 4 from hk4)]
          exact ⟨oM, hh, kd, lf, bt', it, by show 0 < _; omega, .inr (.inr (.inr ⟨rfl, .inr (.inr ⟨p2, p3, had⟩)⟩))⟩
      · refine ⟨oM, hh, kd, lf, bt', it, by show 0 < _; omega, .inl ⟨?_, p3⟩⟩
        unfold againS; exact if_neg (by omega)
    · unfold claimC
      rw [fl, fb']
      split
      · rename_i hx
        refine hY.leaf hle (clm_lt _ _) fun k hk hn => ?_
        rw [clm_bit _ _ hk, ← hx, hY.top _ k hle hk hn]; rfl
      · exact hY
  · obtain ⟨e1, e2, _⟩ := es_mark (a := a) (M := M) (ys := ys) p1
    rw [e1, e2]
    refine ⟨?_, stC_yi hM hY wd hbt⟩
    obtain ⟨x, hx, e | ⟨_, e⟩ | ⟨_, e⟩⟩ := mark_go (a := a) (M := M) (ys := ys) hk4 p1 p3 p4 wd hbt (hx64 _)
    · rw [e]; exact ⟨oM, hh, kd, lf, bt', it, by show 0 < _; omega, .inr (.inr (.inr ⟨rfl, .inr (.inr ⟨p2, p5, p6⟩)⟩))⟩
    · rw [e]; exact ⟨oM, hh, kd, lf, bt', it, hx, .inr (.inr (.inl ⟨.inr rfl, p2, p3, p4, p5, p6⟩))⟩
    · rw [e]; exact ⟨oM, hh, kd, lf, bt', it, hx, .inr (.inr (.inl ⟨.inl rfl, p2, p3, .inr rfl, p5, p6⟩))⟩
  · obtain ⟨e1, e2, _⟩ := es_done (a := a) (M := M) (ys := ys) p1
    rw [e1, e2]
    exact ⟨⟨oM, hh, kd, lf, bt', it, wd, .inr (.inr (.inr ⟨p1, p2⟩))⟩, hY⟩
end
end Go.Proofs.YtacgjaohfcoigaaGreat

/-
  Requests as numbers: what they name, and which error they have. No program stands here but for what a test of a configuration answers.
-/
namespace Go.Proofs.YtacgjaohfcoigaaGreat
set_option maxRecDepth 100000
open Go.RowKit
/-- What a request of kind k names. -/
def nmI (k x : Int) (ys : List Int) : List Int := if k = 2 ∨ k = 3 ∨ k = 5 then [x] else if k = 4 then ys else []
/-- The error of the first name that has one; met: those ahead of it. -/
def chk (a M : Nat) (zs : List Int) : List Int → List Int → Int
  | _, [] => 0
  | met, y :: r => if fiE a M y.toNat zs = 0 then (if y ∈ met then 8 else chk a M zs (y :: met) r) else fiE a M y.toNat zs
/-- The error of a request. -/
def askE (a M : Nat) (zs : List Int) (k x : Int) (ys : List Int) : Int :=
  if 1 ≤ k ∧ k ≤ 7 then (if k = 4 ∧ ys.length = 0 then 7 else if k = 4 ∧ 64 < ys.length then 1 else chk a M zs [] (nmI k x ys)) else 1
section
variable {a M : Nat} {zs : List Int}
theorem nmI_one {k x : Int} {ys : List Int} (h : k = 2 ∨ k = 3 ∨ k = 5) : nmI k x ys = [x] := by unfold nmI; rw [if_pos h]
theorem nmI_all {x : Int} {ys : List Int} : nmI 4 x ys = ys := by unfold nmI; rw [if_neg (by omega), if_pos rfl]
theorem nmI_none {k x : Int} {ys : List Int} (h : ¬ (k = 2 ∨ k = 3 ∨ k = 5)) (h4 : k ≠ 4) : nmI k x ys = [] := by unfold nmI; rw [if_neg h, if_neg h4]
theorem nmI_len {k x : Int} {ys : List Int} {n : Nat} (hn : ys.length ≤ n) (h1 : 1 ≤ n) : (nmI k x ys).length ≤ n := by
  unfold nmI; split
  · simpa using h1
  · split
    · exact hn
    · simp
/-- One step of it. -/
theorem chk_drop {met ys : List Int} {k : Nat} (h : k < ys.length) : chk a M zs met (ys.drop k) = if fiE a M (gi ys k).toNat zs = 0 then (if gi ys k ∈ met then 8 else chk a M zs (gi ys k :: met) (ys.drop (k + 1))) else fiE a M (gi ys k).toNat zs := by
  rw [drop_gi h]; rfl
theorem take_rev {ys : List Int} {k : Nat} (h : k < ys.length) : (ys.take (k + 1)).reverse = gi ys k :: (ys.take k).reverse := by
  rw [List.take_succ_eq_append_getElem h, List.reverse_append, gi_at h]; rfl
theorem mem_take_rev {ys : List Int} {k : Nat} (hk : k ≤ ys.length) {x : Int} : x ∈ (ys.take k).reverse ↔ ∃ j, j < k ∧ gi ys j = x := by
  rw [List.mem_reverse, List.mem_iff_getElem]
  constructor
  · rintro ⟨j, hj, e⟩
    have hj' : j < k := by rw [List.length_take] at hj; omega
    exact ⟨j, hj', by rw [gi_at (by omega), ← e, List.getElem_take]⟩
  · rintro ⟨j, hj, e⟩
    exact ⟨j, by rw [List.length_take]; omega, by rw [List.getElem_take, ← e, gi_at (by omega)]⟩
/-- The state of the loop: what is left is told as the whole would be. -/
def Left_ (a M : Nat) (zs ys : List Int) (k : Nat) : Prop := chk a M zs [] ys = chk a M zs (ys.take k).reverse (ys.drop k)
theorem Left_.start (a M : Nat) (zs ys : List Int) : Left_ a M zs ys 0 := by unfold Left_; simp
theorem Left_.bad {ys : List Int} {k : Nat} (h : Left_ a M zs ys k) (hk : k < ys.length) {e : Int} (he : fiE a M (gi ys k).toNat zs = e) (hn : e ≠ 0) : chk a M zs [] ys = e := by
  rw [h, chk_drop hk, if_neg (by omega), he]
theorem Left_.twice {ys : List Int} {k : Nat} (h : Left_ a M zs ys k) (hk : k < ys.length) (he : fiE a M (gi ys k).toNat zs = 0) {j : Nat} (hj : j < k) (e : gi ys j = gi ys k) : chk a M zs [] ys = 8 := by
  rw [h, chk_drop hk, if_pos he, if_pos ((mem_take_rev (by omega)).2 ⟨j, hj, e⟩)]
theorem Left_.step {ys : List Int} {k : Nat} (h : Left_ a M zs ys k) (hk : k < ys.length) (he : fiE a M (gi ys k).toNat zs = 0) (hj : ∀ j, j < k → gi ys j ≠ gi ys k) : Left_ a M zs ys (k + 1) := by
  unfold Left_
  rw [h, chk_drop hk, if_pos he, if_neg (fun g => by obtain ⟨j, hj', e⟩ := (mem_take_rev (by omega)).1 g; exact hj j hj' e), take_rev hk]
theorem Left_.end_ {ys : List Int} {k : Nat} (h : Left_ a M zs ys k) (hk : ys.length ≤ k) : chk a M zs [] ys = 0 := by
  rw [h, List.drop_eq_nil_of_le hk]; rfl
theorem chk_one (x : Int) : chk a M zs [] [x] = fiE a M x.toNat zs := by
  unfold chk
  by_cases h : fiE a M x.toNat zs = 0
  · rw [if_pos h, if_neg (by simp), h]; rfl
  · rw [if_neg h]
theorem askE_one {k x : Int} {ys : List Int} (h : k = 2 ∨ k = 3 ∨ k = 5) : askE a M zs k x ys = fiE a M x.toNat zs := by
  unfold askE
  rw [if_pos (by omega), if_neg (by omega), if_neg (by omega), nmI_one h, chk_one]
theorem askE_much {x : Int} {ys : List Int} (h : 64 < ys.length) : askE a M zs 4 x ys = 1 := by
  unfold askE
  rw [if_pos (by omega), if_neg (by omega), if_pos ⟨rfl, h⟩]
end
/-! ### the names that were met, as a map -/
end Go.Proofs.YtacgjaohfcoigaaGreat

/-
  What a request asks for: kinds, sizes, lists held against one another, names; nothing that was there is otherwise. The table of kinds is as the row lists it.
-/
namespace Go.Proofs.YtacgjaohfcoigaaGreat
set_option maxRecDepth 100000
open Go.RowKit
/-- What is known of a configuration that may be. -/
structure Cf (a : Nat) (p : Int) (n : Nat) (zs : List Int) (M : Nat) : Prop where
  much : Much a p M
  few : n ≤ 64
  ris : risB M 0 zs = true
section
variable {w : World} {lo a m d : Nat} {p sh wo qu tr : Int} {A B : Option Addr} {n c : Nat} {zs : List Int}
theorem Cf.of (h : confB a p n zs sh wo qu tr = true) : ∃ M, Cf a p n zs M := by
  obtain ⟨h1, h2, h3, _⟩ := confB_no h
  refine ⟨2 ^ (32 - p.toNat), Much.of h1, h2, ?_⟩
  rw [← (Much.of h1).manyI]
  exact h3
end
theorem IS.lit {k : IntKind} {w : World} {g : Nat} {t : TypeId} (xs : List Int) {n : Nat} (h : Bk w g t (xs.map (iv k)).toArray) (hn : xs.length = n) (hm : n ≤ 65536) : IS k 0 w (some ⟨g, 0, none⟩) n n xs :=
  ⟨hn, Nat.le_refl _, by unfold maxLen; omega, (fun e => by cases e), fun _ => ⟨g, 0, rfl, Nat.zero_le _, h.lt, fun j hj => by
    rw [Nat.zero_add, h.at_ j (v := .int k (gi xs j)) (by simp [gi_at (xs := xs) (j := j) (by omega), iv, show j < xs.length by omega])]⟩⟩
theorem ak_sz {c0 c1 c2 : Value} : (Tryz.prog.info? 30).map (·.size) = some (#[c0, c1, c2] : Array Value).size := by kernel_rfl
/-- Numbers of 32 bits. -/
def W32 (ys : List Int) : Prop := ∀ y ∈ ys, 0 ≤ y ∧ y < 4294967296
theorem W32.at_ {ys : List Int} (h : W32 ys) {k : Nat} (hk : k < ys.length) : ∃ y : Nat, gi ys k = y ∧ y < 4294967296 := by
  have := h _ (gi_mem hk)
  exact ⟨(gi ys k).toNat, by omega, by omega⟩
section
variable {w : World} {lo lo' : Nat} {A A' : Option Addr} {n n' c c' : Nat} {xs xs' : List Int}
end
end Go.Proofs.YtacgjaohfcoigaaGreat

/-
  The names of requests, the program's and the document's: a list in memory of the call's own; whether a request has few; nothing that was there is otherwise. Conditions: at most 60000 addresses.
-/
namespace Go.Proofs.YtacgjaohfcoigaaGreat
set_option maxRecDepth 100000
open Go.RowKit
/-- A list of addresses in memory of the call's own is answered. -/
def RetRn (l : List Int) (w : World) (e : Ending) (w' : World) : Prop := ∃ A n c, e = .returned (.slice A n c) ∧ Ri .u32 22 w' w.heap.size (.slice A n c) n l ∧ Below w.heap.size w w'
section
variable {w : World} {lo m d : Nat} {k : Int} {x : Int} {B : Option Addr} {ys : List Int}
theorem Ri.one {base : Nat} {w : World} (hb : base ≤ w.heap.size) (x : Int) : Ri .u32 22 (w.alloc (.cells #[.int .u32 x] 22)) base (.slice (some ⟨w.heap.size, 0, none⟩) 1 1) 1 [x] :=
  World.ownsRow_lit w #[.int .u32 x] 1 hb (by unfold maxLen; omega) rfl
theorem Ri.none_ {base : Nat} (w : World) : Ri .u32 22 w base (.slice none 0 0) 0 [] := World.ownsRow_nil w base _ 1
set_option maxHeartbeats 1000000 in
theorem rnames_any (h : IS .u32 lo w B m d ys) (hm : m ≤ 60000) :
    Calls Tryz.prog 41 #[.agg #[.int .i64 k, .int .u32 x, .slice B m d]] w (RetRn (nmI k x ys) w) := by
  have K := below_alloc w (.cells #[.int .i64 k, .int .u32 x, .slice B m d] 30)
  have H := Bk.new w #[.int .i64 k, .int .u32 x, .slice B m d] 30
  replace h := h.below K
  have hl := h.len
  go_enter Tryz.func41, Tryz.ntmps41
  go_upto_region 1 with (fail)
  generalize w.alloc (.cells #[.int .i64 k, .int .u32 x, .slice B m d] 30) = w1 at H K h ⊢
  generalize w.heap.size = g at H ⊢
  have KS := K.size
  have H_0 := H.at_ (v := .int .i64 k) 0 rfl
  have H_1 := H.at_ (v := .int .u32 x) 1 rfl
  have H_2 := H.at_ (v := .slice B m d) 2 rfl
  have H_z := H.lt
  by_cases h1 : k = 2 ∨ k = 3 ∨ k = 5
  · have N := Lib.hid (nmI_one (x := x) (ys := ys) h1)
    rcases h1 with rfl | rfl | rfl
    all_goals
      go_wp2
      go_ret
      rw [N.out]
      exact ⟨_, _, _, rfl, Ri.one KS x, Below.then_ K (below_alloc _ _)⟩
  · by_cases h4 : k = 4
    · subst h4
      rw [nmI_all]
      obtain ⟨i0, hi, hz0, hz1, hz2⟩ := info_parts u32_info
      have hown : Ri .u32 22 (w1.alloc (.cells #[] 22)) w.heap.size (.slice (some ⟨w1.heap.size, 0, none⟩) 0 0) 0 [] := World.ownsRow_lit w1 #[] 0 KS (by unfold maxLen; omega) rfl
      have Ka := below_alloc w1 (.cells #[] 22)
      obtain ⟨B1, b1, wq, hap, R1, K1⟩ := run_app (P := Tryz.prog) Tryz.underlying28 hi hz0 hz1 (by omega) hown (h.below Ka) (by omega) (Nat.le_trans KS Ka.size) 28
      rw [Nat.zero_add] at hap R1
      rw [List.nil_append] at R1
      have HA := Lib.hid hap
      clear hap hi hz0 hz1 hz2 hown
      go_wp2_with (first | (at_builtin; refine wpList_append_run rfl (.tmp 22) (.tmp 24) 28 rfl _ _ _ _ rfl rfl HA.out ?_))
      go_ret
      exact ⟨_, _, _, rfl, R1, (Below.then_ K Ka).trans K1⟩
    · have N := Lib.hid (nmI_none (x := x) (ys := ys) h1 h4)
      have e2 : (k == 2) = false := by simp; omega
      have e3 : (k == 3) = false := by simp; omega
      have e5 : (k == 5) = false := by simp; omega
      have e4 : (k == 4) = false := by simp; omega
      clear h1 h4
      go_wp2
      go_ret
      rw [N.out]
      exact ⟨_, _, _, rfl, Ri.none_ _, K⟩
theorem few_any (h : IS .u32 lo w B m d ys) :
    Calls Tryz.prog 15 #[.agg #[.int .i64 k, .int .u32 x, .slice B m d]] w (RetBo (decide (m ≤ 100)) w) := by
  have K := below_alloc w (.cells #[.int .i64 k, .int .u32 x, .slice B m d] 30)
  have H := Bk.new w #[.int .i64 k, .int .u32 x, .slice B m d] 30
  have hc := h.cap
  have hm := h.most
  go_enter Tryz.func15, Tryz.ntmps15
  go_upto_region 1 with (fail)
  generalize w.alloc (.cells #[.int .i64 k, .int .u32 x, .slice B m d] 30) = w1 at H K ⊢
  generalize w.heap.size = g at H ⊢
  have H_2 := H.at_ (v := .slice B m d) 2 rfl
  have H_z := H.lt
  go_wp2
  go_ret
  exact ⟨ret_bool (by simp; omega), K⟩
theorem few_yes (h : IS .u32 lo w B m d ys) (hf : m ≤ 100) :
    Calls Tryz.prog 15 #[.agg #[.int .i64 k, .int .u32 x, .slice B m d]] w (RetBo true w) := by
  have := few_any (k := k) (x := x) h; rwa [decide_eq_true hf] at this
theorem few_no (h : IS .u32 lo w B m d ys) (hf : ¬ m ≤ 100) :
    Calls Tryz.prog 15 #[.agg #[.int .i64 k, .int .u32 x, .slice B m d]] w (RetBo false w) := by
  have := few_any (k := k) (x := x) h; rwa [decide_eq_false hf] at this
end
end Go.Proofs.YtacgjaohfcoigaaGreat

/-
  Requests looked at, by the program and by the document's definition: the same error; nothing that was there is otherwise. Conditions: at most 60000 addresses.
-/
namespace Go.Proofs.YtacgjaohfcoigaaGreat
set_option maxRecDepth 100000
open Go.RowKit
theorem W32.nm {k : Int} {X : Nat} {ys : List Int} (hX : X < 4294967296) (hw : W32 ys) : W32 (nmI k X ys) := by
  unfold nmI; split
  · intro y hy; simp only [List.mem_singleton] at hy; omega
  · split
    · exact hw
    · intro y hy; simp at hy
section
variable {w : World} {lo lo2 a M m d X : Nat} {p sh wo qu tr k : Int} {A B : Option Addr} {n c : Nat} {zs ys : List Int}
end
end Go.Proofs.YtacgjaohfcoigaaGreat

/-
  Requests looked at by the document's definition: the same error as the program's; nothing that was there is otherwise. Conditions: at most 60000 addresses.
-/
namespace Go.Proofs.YtacgjaohfcoigaaGreat
set_option maxRecDepth 100000
open Go.RowKit
section
variable {w : World} {lo lo2 a M m d X : Nat} {p sh wo qu tr k : Int} {A B : Option Addr} {n c : Nat} {zs ys : List Int}
set_option maxRecDepth 100000 in
set_option maxHeartbeats 2000000 in
theorem rcheck_any (hM : Much a p M) (h : IS .i64 lo w A n c zs) (hn : n ≤ 65536) (hs : IS .u32 lo2 w B m d ys) (hm : m ≤ 60000) (hX : X < 4294967296) (hw : W32 ys) :
    Calls Tryz.prog 16 #[.agg #[.int .u32 a, .int .i64 p, .slice A n c, .int .i64 sh, .int .i64 wo, .int .i64 qu, .int .i64 tr], .agg #[.int .i64 k, .int .u32 (X : Int), .slice B m d]] w fun e w' => e = .returned (.int .i64 (askE a M zs k X ys)) ∧ Below w.heap.size w w' := by
  have K := Below.refl w.heap.size w
  go_enter Tryz.func16, Tryz.ntmps16
  go_upto_region 1 with (fail)
  replace h := h.below (below_alloc _ (.cells #[.int .u32 a, .int .i64 p, .slice A n c, .int .i64 sh, .int .i64 wo, .int .i64 qu, .int .i64 tr] 27))
  replace hs := hs.below (below_alloc _ (.cells #[.int .u32 a, .int .i64 p, .slice A n c, .int .i64 sh, .int .i64 wo, .int .i64 qu, .int .i64 tr] 27))
  replace K := Below.then_ K (below_alloc _ (.cells #[.int .u32 a, .int .i64 p, .slice A n c, .int .i64 sh, .int .i64 wo, .int .i64 qu, .int .i64 tr] 27))
  have H := Bk.new (w) #[.int .u32 a, .int .i64 p, .slice A n c, .int .i64 sh, .int .i64 wo, .int .i64 qu, .int .i64 tr] 27
  replace H := H.alloc (.cells #[.int .i64 k, .int .u32 (X : Int), .slice B m d] 30)
  replace h := h.below (below_alloc _ (.cells #[.int .i64 k, .int .u32 (X : Int), .slice B m d] 30))
  replace hs := hs.below (below_alloc _ (.cells #[.int .i64 k, .int .u32 (X : Int), .slice B m d] 30))
  replace K := Below.then_ K (below_alloc _ (.cells #[.int .i64 k, .int .u32 (X : Int), .slice B m d] 30))
  have G := Bk.new ((w).alloc (.cells #[.int .u32 a, .int .i64 p, .slice A n c, .int .i64 sh, .int .i64 wo, .int .i64 qu, .int .i64 tr] 27)) #[.int .i64 k, .int .u32 (X : Int), .slice B m d] 30
  try simp only [World.size_alloc] at H G
  generalize ((w).alloc (.cells #[.int .u32 a, .int .i64 p, .slice A n c, .int .i64 sh, .int .i64 wo, .int .i64 qu, .int .i64 tr] 27)).alloc (.cells #[.int .i64 k, .int .u32 (X : Int), .slice B m d] 30) = w1 at H G h hs K ⊢
  generalize w.heap.size + 1 = gG at H G ⊢
  generalize w.heap.size = gH at H G ⊢
  have hN := W32.nm (k := k) hX hw
  replace hw := Lib.hid hw
  have hl := Lib.hid hs.len
  have mc := hs.cap
  have mm := hs.most
  unfold maxLen at mm
  have G_0 := G.at_ (v := .int .i64 k) 0 rfl
  have G_1 := G.at_ (v := .int .u32 (X : Int)) 1 rfl
  have G_2 := G.at_ (v := .slice B m d) 2 rfl
  have G_z := G.lt
  by_cases k1 : k < 1
  · go_wp2
    go_ret
    exact ⟨ret_int (by unfold askE; rw [if_neg (by omega)]), K⟩
  by_cases k7 : 7 < k
  · go_wp2
    go_ret
    exact ⟨ret_int (by unfold askE; rw [if_neg (by omega)]), K⟩
  by_cases b0 : k = 4 ∧ m = 0
  · obtain ⟨rfl, rfl⟩ := b0
    go_wp2
    go_ret
    exact ⟨ret_int (by unfold askE; rw [if_pos (by omega), if_pos ⟨rfl, hl.out⟩]), K⟩
  by_cases b1 : k = 4 ∧ 64 < m
  · obtain ⟨rfl, b1⟩ := b1
    have e0 : ((m : Int) == 0) = false := by simp; omega
    go_wp2
    go_ret
    exact ⟨ret_int (askE_much (by have := hl.out; omega)).symm, K⟩
  have hA : askE a M zs k X ys = chk a M zs [] (nmI k X ys) := by
    have := hl.out
    unfold askE; rw [if_pos (by omega), if_neg (by omega), if_neg (by omega)]
  replace hA := Lib.hid hA
  have T := Lib.hid (rnames_any (k := k) (x := X) hs hm)
  have key : ((k == 4) = true ∧ ((m : Int) == 0) = false ∧ decide ((64 : Int) < (m : Int)) = false) ∨ (k == 4) = false := by
    by_cases g : k = 4
    · exact .inl ⟨by simp [g], by simp; omega, by simp; omega⟩
    · exact .inr (by simp [g])
  have e1 : decide (k < 1) = false := by simp; omega
  have e7 : decide (7 < k) = false := by simp; omega
  have hlen := nmI_len (k := k) (x := (X : Int)) (ys := ys) (n := 60000) (by have := hl.out; omega) (by omega)
  generalize nmI k X ys = qs at T hlen hN hA
  replace hlen := Lib.hid hlen
  replace hN := Lib.hid hN
  clear b0 b1 k1 k7
  rcases key with ⟨e4, e0, e64⟩ | e4
  all_goals
    go_wp2_with fail
    refine T.out.mono ?_
    rintro e w2 ⟨NA, Nn, Nc, rfl, R, K'⟩
    clear T G_0 G_1 G_2 G_z
    clear hs
    clear G
    replace H := H.below K'
    replace h := h.below K'
    replace K := Below.then_ K K'
    clear K'
    replace R := R.is
    have hnl := R.len
    have hNn : Nn ≤ 60000 := by have := hlen.out; omega
    replace hnl := Lib.hid hnl
    go_wp2
    go_loopw [6] (fun i wr => ∃ k : Nat, k ≤ Nn ∧ i = .int .i64 k ∧ Below w2.heap.size w2 wr ∧ Hid (Left_ a M zs qs k)) (fun i _ => Nn - (intOf i).toNat)
    case atStart => exact ⟨0, Nat.zero_le _, rfl, Below.refl _ _, Lib.hid (Left_.start _ _ _ _)⟩
    case round =>
      obtain ⟨k, hk, rfl, Kr, L⟩ := hrel
      by_cases hlt : k < Nn
      · obtain ⟨y, hy, hyb⟩ := hN.out.at_ (k := k) (by have := hnl.out; omega)
        obtain ⟨b, o, rfl, hbl, hc⟩ := (R.below Kr).get hlt
        rw [hy] at hc
        replace H := H.below Kr
        replace h := h.below Kr
        have hkl : k < qs.length := by have := hnl.out; omega
        replace hkl := Lib.hid hkl
        have T := fun w5 (K5 : Below wr.heap.size wr w5) => Lib.hid (rfind_any (sh := sh) (wo := wo) (qu := qu) (tr := tr) (w := w5) y hyb hM (h.below K5) hn)
        have hfE : fiE a M (gi qs k).toNat zs = fiE a M y zs := by rw [hy]; rfl
        generalize fiE a M y zs = E at T hfE
        generalize fiO a M y zs = F at T
        replace hfE := Lib.hid hfE
        replace hy := Lib.hid hy
        go_wp2_with fail
        refine wp_region_held_drew (S := fun w' => Below wr.heap.size wr w') (by kernel_rfl) (Below.refl _ _).drew (fun hHeld => ?_)
        refine wpAnyH_take (i := 0) (oi := ⟨some 45, _, _, _, _, _⟩) (v := ?_) rfl (by kernel_rfl) (by kernel_rfl) (by kernel_rfl) (fun _ _ _ h => h) (Or.inl ⟨by rfl, ?_⟩) hHeld ?_
        rotate_left
        · intro ww hSw
          try dsimp only at hSw
          have H_0 := (H.below hSw).at_ (v := .int .u32 a) 0 rfl
          have H_1 := (H.below hSw).at_ (v := .int .i64 p) 1 rfl
          have H_2 := (H.below hSw).at_ (v := .slice A n c) 2 rfl
          have H_3 := (H.below hSw).at_ (v := .int .i64 sh) 3 rfl
          have H_4 := (H.below hSw).at_ (v := .int .i64 wo) 4 rfl
          have H_5 := (H.below hSw).at_ (v := .int .i64 qu) 5 rfl
          have H_6 := (H.below hSw).at_ (v := .int .i64 tr) 6 rfl
          have hc_ := (hSw.cell (p := ⟨b, o + k, none⟩) hbl).trans hc
          go_simp
          try with_reducible rfl
          try omega
        try simp only [Act.put, List.setIfInBounds_toArray, List.set_cons_zero, List.set_cons_succ]
        refine wpAnyH_take (i := 1) (oi := ⟨some 46, _, _, _, _, _⟩) (v := ?_) rfl (by kernel_rfl) (by kernel_rfl) (by kernel_rfl) (fun _ _ _ h => h) (Or.inl ⟨by rfl, ?_⟩) hHeld ?_
        rotate_left
        · intro ww hSw
          try dsimp only at hSw
          go_simp
          try with_reducible rfl
          try omega
        try simp only [Act.put, List.setIfInBounds_toArray, List.set_cons_zero, List.set_cons_succ]
        refine wpAnyH_take (i := 2) (oi := ⟨some 47, _, _, _, _, _⟩) (v := ?_) rfl (by kernel_rfl) (by kernel_rfl) (by kernel_rfl) (fun _ _ _ h => h) (Or.inl ⟨by rfl, ?_⟩) hHeld ?_
        rotate_left
        · intro ww hSw
          try dsimp only at hSw
          go_simp
          try with_reducible rfl
          try omega
        try simp only [Act.put, List.setIfInBounds_toArray, List.set_cons_zero, List.set_cons_succ]
        refine wpAnyH_take (i := 3) (oi := ⟨some 48, _, _, _, _, _⟩) (v := ?_) rfl (by kernel_rfl) (by kernel_rfl) (by kernel_rfl) (fun _ _ _ h => h) (Or.inl ⟨by rfl, ?_⟩) hHeld ?_
        rotate_left
        · intro ww hSw
          try dsimp only at hSw
          go_simp
          try with_reducible rfl
          try omega
        try simp only [Act.put, List.setIfInBounds_toArray, List.set_cons_zero, List.set_cons_succ]
        refine wpAnyH_take (i := 4) (oi := ⟨some 49, _, _, _, _, _⟩) (v := ?_) rfl (by kernel_rfl) (by kernel_rfl) (by kernel_rfl) (fun _ _ _ h => h) (Or.inl ⟨by rfl, ?_⟩) hHeld ?_
        rotate_left
        · intro ww hSw
          try dsimp only at hSw
          have H_0 := (H.below hSw).at_ (v := .int .u32 a) 0 rfl
          have H_1 := (H.below hSw).at_ (v := .int .i64 p) 1 rfl
          have H_2 := (H.below hSw).at_ (v := .slice A n c) 2 rfl
          have H_3 := (H.below hSw).at_ (v := .int .i64 sh) 3 rfl
          have H_4 := (H.below hSw).at_ (v := .int .i64 wo) 4 rfl
          have H_5 := (H.below hSw).at_ (v := .int .i64 qu) 5 rfl
          have H_6 := (H.below hSw).at_ (v := .int .i64 tr) 6 rfl
          have hc_ := (hSw.cell (p := ⟨b, o + k, none⟩) hbl).trans hc
          go_simp
          try with_reducible rfl
          try omega
        try simp only [Act.put, List.setIfInBounds_toArray, List.set_cons_zero, List.set_cons_succ]
        refine wpAnyH_ready (rs := [5]) (by kernel_rfl) (by simp) ?_
        refine AllReadyH.cons (o := ⟨some 50, _, _, _, _, _⟩) rfl (fun K0 hK => ?_) AllReadyH.nil
        go_simp
        refine ((T _ hHeld).out).mono ?_
        rintro e ww ⟨rfl, K'⟩
        refine hK.out _ _ (Below.then_ hHeld K') (fun hHeld' => ?_)
        clear hHeld K' hK K0
        have hHeld := hHeld'
        clear hHeld'
        try simp only [Act.put, List.setIfInBounds_toArray, List.set_cons_zero, List.set_cons_succ]
        refine wpAnyH_take (i := 6) (oi := ⟨some 44, _, _, _, _, _⟩) (v := ?_) rfl (by kernel_rfl) (by kernel_rfl) (by kernel_rfl) (fun _ _ _ h => h) (Or.inl ⟨by rfl, ?_⟩) hHeld ?_
        rotate_left
        · intro ww hSw
          try dsimp only at hSw
          go_simp
          try with_reducible rfl
          try omega
        try simp only [Act.put, List.setIfInBounds_toArray, List.set_cons_zero, List.set_cons_succ]
        refine wpAnyH_take (i := 7) (oi := ⟨some 51, _, _, _, _, _⟩) (v := ?_) rfl (by kernel_rfl) (by kernel_rfl) (by kernel_rfl) (fun _ _ _ h => h) (Or.inl ⟨by rfl, ?_⟩) hHeld ?_
        rotate_left
        · intro ww hSw
          try dsimp only at hSw
          go_simp
          try with_reducible rfl
          try omega
        try simp only [Act.put, List.setIfInBounds_toArray, List.set_cons_zero, List.set_cons_succ]
        refine wpAnyH_take (i := 8) (oi := ⟨some 52, _, _, _, _, _⟩) (v := ?_) rfl (by kernel_rfl) (by kernel_rfl) (by kernel_rfl) (fun _ _ _ h => h) (Or.inl ⟨by rfl, ?_⟩) hHeld ?_
        rotate_left
        · intro ww hSw
          try dsimp only at hSw
          go_simp
          try with_reducible rfl
          try omega
        try simp only [Act.put, List.setIfInBounds_toArray, List.set_cons_zero, List.set_cons_succ]
        refine wpAnyH_take (i := 9) (oi := ⟨some 7, _, _, _, _, _⟩) (v := ?_) rfl (by kernel_rfl) (by kernel_rfl) (by kernel_rfl) (fun _ _ _ h => h) (Or.inl ⟨by rfl, ?_⟩) hHeld ?_
        rotate_left
        · intro ww hSw
          try dsimp only at hSw
          go_simp
          try with_reducible rfl
          try omega
        try simp only [Act.put, List.setIfInBounds_toArray, List.set_cons_zero, List.set_cons_succ]
        refine wpAnyH_take (i := 10) (oi := ⟨some 8, _, _, _, _, _⟩) (v := ?_) rfl (by kernel_rfl) (by kernel_rfl) (by kernel_rfl) (fun _ _ _ h => h) (Or.inl ⟨by rfl, ?_⟩) hHeld ?_
        rotate_left
        · intro ww hSw
          try dsimp only at hSw
          go_simp
          try with_reducible rfl
          try omega
        try simp only [Act.put, List.setIfInBounds_toArray, List.set_cons_zero, List.set_cons_succ]
        refine wpAnyH_done (by kernel_rfl) ?_ _
        have K9 := hHeld
        clear hHeld T
        have Kq := Kr.trans (K9.mono Kr.size)
        by_cases hE : E = 0
        · subst hE
          go_wp2
          clear hc H
          go_loopw [9] (fun v wr2 => ∃ j : Nat, j ≤ k ∧ v = .int .i64 j ∧ Below w2.heap.size w2 wr2 ∧ Hid (∀ i, i < j → gi qs i ≠ gi qs k)) (fun v _ => k - (intOf v).toNat)
          case atStart => exact ⟨0, Nat.zero_le _, rfl, Kq, Lib.hid (fun i hi => absurd hi (by omega))⟩
          case round =>
            obtain ⟨j, hj, rfl, Kj, N⟩ := hrel
            by_cases hjk : j < k
            · have c1 := (R.below Kj).here (j := j) (by omega)
              have c2 := (R.below Kj).here hlt
              by_cases hx : gi qs j = gi qs k
              · have e1 : (gi qs j == gi qs k) = true := by simp [hx]
                have hx := Lib.hid hx
                go_wp2
                go_quiet (fail)
                go_wp2
                go_ret
                exact ⟨ret_int (hA.out.trans (L.out.twice hkl.out hfE.out hjk hx.out)).symm, Below.then_ K (below_drewN Kj _)⟩
              · have e1 : (gi qs j == gi qs k) = false := by simp [hx]
                have hx := Lib.hid hx
                go_wp2
                go_quiet (fail)
                go_wp2
                go_roundw
                case rel =>
                  refine ⟨j + 1, by omega, by go_num, below_drewN Kj _, Lib.hid (fun i hi => ?_)⟩
                  rcases Nat.lt_or_ge i j with g | g
                  · exact N.out i g
                  · obtain rfl : i = j := by omega
                    exact hx.out
                case measure => simp [intOf]; omega
            · go_wp2
              go_roundw
              case rel => exact ⟨k + 1, by omega, by go_num, Kj, Lib.hid (L.out.step hkl.out hfE.out (fun i hi => N.out i (by omega)))⟩
              case measure => simp [intOf]; omega
        · have e9 : (E != 0) = true := by simp [hE]
          replace hE := Lib.hid hE
          go_wp2
          go_ret
          exact ⟨ret_int (hA.out.trans (L.out.bad hkl.out hfE.out hE.out)).symm, Below.then_ K Kq⟩
      · go_wp2
        go_ret
        exact ⟨ret_int (hA.out.trans (L.out.end_ (by have := hnl.out; omega))).symm, Below.then_ K Kr⟩
end
end Go.Proofs.YtacgjaohfcoigaaGreat

/-
  What the steps of an exact grant, or a question, answer, as propositions. No program in it.
-/
namespace Go.Proofs.YtacgjaohfcoigaaGreat
set_option maxRecDepth 100000
set_option maxRecDepth 100000
open Go.RowKit
set_option linter.unusedVariables false
def RetRM (s : Sc) (h : Hd) (m : Nat) (ys : List Nat) (B0 : Option Addr) (w : World) (e : Ending) (w' : World) : Prop := ∃ B d, e = .returned (.tuple #[.slice B m d, .agg (opv h s)]) ∧ US w' B m d ys ∧ (∀ k, k < w.heap.size → Apart k B0 → Apart k B) ∧ Below w.heap.size w w'
def RetXR (s : Sc) (h : Hd) (m : Nat) (ys : List Nat) (b : Bool) (B0 : Option Addr) (w : World) (e : Ending) (w' : World) : Prop := ∃ B d, e = .returned (.tuple #[.slice B m d, .agg (opv h s), .bool b]) ∧ US w' B m d ys ∧ (∀ k, k < w.heap.size → Apart k B0 → Apart k B) ∧ Below w.heap.size w w'
/-- What the program's step answers: cells in new memory or those that were handed in, an operation with lists of its own, whether it took effect. -/
def RetX (s : Sc) (l : Ls) (m : Nat) (ys : List Nat) (b : Bool) (B0 : Option Addr) (w : World) (e : Ending) (w' : World) : Prop :=
  ∃ h' B d, e = .returned (.tuple #[.slice B m d, .agg (opv h' s), .bool b]) ∧ US w' B m d ys ∧ Lists w.heap.size w' h' l ∧ (∀ k, k < w.heap.size → Apart k B0 → Apart k B) ∧ Below w.heap.size w w'
/-- What beginning answers: an operation whose list of the request's is that which came in, or a new one. -/
def RetXB (s : Sc) (xs : List Int) (h0 : Hd) (w : World) (e : Ending) (w' : World) : Prop := ∃ h', e = .returned (.agg (opv h' s)) ∧ Lists 0 w' h' ⟨xs, [], [], []⟩ ∧ SAo h0 h' w ∧ Below w.heap.size w w'
end Go.Proofs.YtacgjaohfcoigaaGreat

/-
  What the document's Step of layer 8 answers of an operation that marks a full leaf, no Batch. Conditions: a block that may be, as many cells as there are, a leaf that there is.
-/
namespace Go.Proofs.YtacgjaohfcoigaaGreat
set_option maxRecDepth 100000
set_option maxRecDepth 100000
open Go.RowKit
set_option linter.unusedVariables false
section
variable {w w1 : World} {lo a m d M ns N hd k t tt lf cl b x : Nat} {p wo qu tr : Int} {A B : Option Addr} {n c : Nat} {zs : List Int} {sn ys : List Nat} {h : Hd} {s : Sc}
set_option maxRecDepth 100000 in
set_option maxHeartbeats 2000000 in
theorem rmx_04n (ha : a < 4294967296) (hM : Much a p M) (hU : US w B m d ys) (hm : m = lv M + tv M + 1) (hk : s.kind ≠ 4) (hlf : s.leaf = (lf : Int)) (hlv : lf < lv M) (hw : s.word < 18446744073709551616) (hfu : s.full = true) (hcl : cl = lv M + lf / 64) (hb : b = lf % 64) (hat : s.at_ = 0) (hph : s.phase = 4) (hbit : (gt ys cl).testBit b = false) :
    Calls Tryz.prog 39 #[.agg #[.int .u32 (a : Int), .int .i64 p, .slice A n c, .int .i64 (ns : Int), .int .i64 wo, .int .i64 qu, .int .i64 tr], .slice B m d, .agg (opv h s)] w (RetRM (setp (worded s (gt ys cl))) h m ys B w) := by
  have hm9 := hM.most
  have hl3 := lv_le hm9
  have ht3 := tv_le hm9
  have hm6 : m ≤ 65536 := by omega
  have hb2 : b < 64 := by omega
  have hcm : cl < m := by unfold tv tq at *; omega
  have TT := fun w => Lib.hid (rtop_any M lf hM.most (by omega) w)
  rw [← hcl, ← hb] at TT
  obtain ⟨bb, oo, hBe, hbb, hcc⟩ := hU.get hcm
  subst hBe
  have TH := fun w => Lib.hid (rhas_any (gt ys cl) b (gt_lt hU.fit cl) hb2 w)
  rw [hbit] at TH
  clear hbit
  obtain ⟨x, hx⟩ : ∃ x, x = gt ys cl := ⟨_, rfl⟩
  rw [← hx] at hcc TH ⊢
  clear hx
  have hcm2 : (cl : Int) < (m : Int) := by omega
  clear hcl hb hm9 hl3 ht3 hm ha hk
  rcases s with ⟨kind, addr, err, aad, used, phase, shard, sought, leaf, bit, word, full, at_, tries, item, stamp⟩
  rcases h with ⟨A0, n0, c0, A1, n1, c1, A2, n2, c2, A3, n3, c3⟩
  try dsimp only at *
  subst hlf hat hph hfu
  go_enter Tryz.func39, Tryz.ntmps39
  go_upto_region 1 with (fail)
  have L := Loc.start w
  replace L := (((L).alloc #[.int .u32 (a : Int), .int .i64 p, .slice A n c, .int .i64 (ns : Int), .int .i64 wo, .int .i64 qu, .int .i64 tr] 27).alloc (opv ⟨A0, n0, c0, A1, n1, c1, A2, n2, c2, A3, n3, c3⟩ ⟨kind, addr, err, aad, used, 4, shard, sought, (lf : Int), bit, word, true, 0, tries, item, stamp⟩) 40).alloc #[.int .i64 0, .int .u32 0, .slice none 0 0, .int .i64 0, .int .u32 0, .bool false, .slice none 0 0, .slice none 0 0, .int .i64 0, .int .i64 0, .int .i64 0, .int .i64 0, .int .i64 0, .int .u64 0, .bool false, .slice none 0 0, .int .i64 0, .int .i64 0, .int .i64 0, .int .i64 0] 40
  try simp only [World.size_alloc] at L
  replace L := L.is 0 (opv hd0 sc0) rfl
  try dsimp only [nput] at L
  generalize (((w).alloc (.cells #[.int .u32 (a : Int), .int .i64 p, .slice A n c, .int .i64 (ns : Int), .int .i64 wo, .int .i64 qu, .int .i64 tr] 27)).alloc (.cells (opv ⟨A0, n0, c0, A1, n1, c1, A2, n2, c2, A3, n3, c3⟩ ⟨kind, addr, err, aad, used, 4, shard, sought, (lf : Int), bit, word, true, 0, tries, item, stamp⟩) 40)).alloc (.cells #[.int .i64 0, .int .u32 0, .slice none 0 0, .int .i64 0, .int .u32 0, .bool false, .slice none 0 0, .slice none 0 0, .int .i64 0, .int .i64 0, .int .i64 0, .int .i64 0, .int .i64 0, .int .u64 0, .bool false, .slice none 0 0, .int .i64 0, .int .i64 0, .int .i64 0, .int .i64 0] 40) = w1 at L ⊢
  generalize w.heap.size + 1 + 1 = gR at L ⊢
  generalize w.heap.size + 1 = gO at L ⊢
  generalize w.heap.size = gH at L ⊢
  have H_0 := L.at_ 2 0 rfl (v := .int .u32 (a : Int)) rfl
  have H_1 := L.at_ 2 1 rfl (v := .int .i64 p) rfl
  have H_z := L.lt 2 rfl
  go_wp2_with fail
  refine (rmany_yes hM).mono ?_
  rintro e w2 ⟨rfl, K'⟩
  clear H_0 H_1 H_z
  replace L := L.over K'
  have O_11 := L.at_ 1 11 rfl (v := .int .i64 (lf : Int)) rfl
  have O_z := L.lt 1 rfl
  go_wp2_with fail
  refine ((TT _).out).mono ?_
  rintro e w' ⟨rfl, rfl⟩
  clear O_11 O_z
  have O_16 := L.at_ 1 16 rfl (v := .int .i64 0) rfl
  have O_8 := L.at_ 1 8 rfl (v := .int .i64 4) rfl
  have O_13 := L.at_ 1 13 rfl (v := .int .u64 ((word : Nat) : Int)) rfl
  have O_z := L.lt 1 rfl
  have O_f13 := L.fz 1 13 rfl
  have X := (L.K.cell (p := ⟨bb, oo + cl, none⟩) hbb).trans hcc
  go_upto_region 7 with fail
  clear O_16 O_8 O_13 O_z O_f13 X
  replace L := ((L.set 1 13 rfl (.int .u64 ((x : Nat) : Int))).is 1 (opv ⟨A0, n0, c0, A1, n1, c1, A2, n2, c2, A3, n3, c3⟩ ⟨kind, addr, err, aad, used, 4, shard, sought, (lf : Int), bit, x, true, 0, tries, item, stamp⟩) rfl)
  try dsimp only [nput] at L
  generalize (w2).setCell ⟨gO, 13, none⟩ (.int .u64 ((x : Nat) : Int)) = w3 at L ⊢
  replace L := L.drew
  refine wp_region_held_drew (S := fun w' => Loc w w' [(gR, 40, opv hd0 sc0), (gO, 40, opv ⟨A0, n0, c0, A1, n1, c1, A2, n2, c2, A3, n3, c3⟩ ⟨kind, addr, err, aad, used, 4, shard, sought, (lf : Int), bit, x, true, 0, tries, item, stamp⟩), (gH, 27, #[.int .u32 (a : Int), .int .i64 p, .slice A n c, .int .i64 (ns : Int), .int .i64 wo, .int .i64 qu, .int .i64 tr])] []) (by kernel_rfl) L (fun hHeld => ?_)
  generalize w3.drew = v4 at hHeld L ⊢
  refine wpAnyH_take (i := 0) (oi := ⟨some 40, _, _, _, _, _⟩) (v := .pointer (some ⟨gO, 13, none⟩)) rfl (by kernel_rfl) (by kernel_rfl) (by kernel_rfl) (fun _ _ _ h => h) (Or.inl ⟨by rfl, ?_⟩) hHeld ?_
  · intro ww hS
    try dsimp only at hS
    go_simp
    try with_reducible rfl
    try omega
  try simp only [Act.put, List.setIfInBounds_toArray, List.set_cons_zero, List.set_cons_succ]
  refine wpAnyH_take (i := 1) (oi := ⟨some 41, _, _, _, _, _⟩) (v := .int .u64 ((x : Nat) : Int)) rfl (by kernel_rfl) (by kernel_rfl) (by kernel_rfl) (fun _ _ _ h => h) (Or.inl ⟨by rfl, ?_⟩) hHeld ?_
  · intro ww hS
    try dsimp only at hS
    have O_13 := (hS).at_ 1 13 rfl (v := .int .u64 ((x : Nat) : Int)) rfl
    have O_z := (hS).lt 1 rfl
    go_simp
    try with_reducible rfl
    try omega
  try simp only [Act.put, List.setIfInBounds_toArray, List.set_cons_zero, List.set_cons_succ]
  refine wpAnyH_take (i := 2) (oi := ⟨some 42, _, _, _, _, _⟩) (v := .int .i64 (b : Int)) rfl (by kernel_rfl) (by kernel_rfl) (by kernel_rfl) (fun _ _ _ h => h) (Or.inl ⟨by rfl, ?_⟩) hHeld ?_
  · intro ww hS
    try dsimp only at hS
    go_simp
    try with_reducible rfl
    try omega
  try simp only [Act.put, List.setIfInBounds_toArray, List.set_cons_zero, List.set_cons_succ]
  refine wpAnyH_take (i := 4) (oi := ⟨some 44, _, _, _, _, _⟩) (v := .pointer (some ⟨gO, 14, none⟩)) rfl (by kernel_rfl) (by kernel_rfl) (by kernel_rfl) (fun _ _ _ h => h) (Or.inl ⟨by rfl, ?_⟩) hHeld ?_
  · intro ww hS
    try dsimp only at hS
    go_simp
    try with_reducible rfl
    try omega
  try simp only [Act.put, List.setIfInBounds_toArray, List.set_cons_zero, List.set_cons_succ]
  refine wpAnyH_take (i := 5) (oi := ⟨some 45, _, _, _, _, _⟩) (v := .bool true) rfl (by kernel_rfl) (by kernel_rfl) (by kernel_rfl) (fun _ _ _ h => h) (Or.inl ⟨by rfl, ?_⟩) hHeld ?_
  · intro ww hS
    try dsimp only at hS
    have O_14 := (hS).at_ 1 14 rfl (v := .bool true) rfl
    have O_z := (hS).lt 1 rfl
    go_simp
    try with_reducible rfl
    try omega
  try simp only [Act.put, List.setIfInBounds_toArray, List.set_cons_zero, List.set_cons_succ]
  refine wpAnyH_ready (rs := [3]) (by kernel_rfl) (by simp) ?_
  refine AllReadyH.cons (o := ⟨some 43, _, _, _, _, _⟩) rfl (fun K0 hK => ?_) AllReadyH.nil
  go_simp
  refine ((TH _).out).mono ?_
  rintro e w' ⟨rfl, rfl⟩
  refine hK.out _ _ L (fun hHeld' => ?_)
  clear hHeld hK K0
  have hHeld := hHeld'
  clear hHeld'
  try simp only [Act.put, List.setIfInBounds_toArray, List.set_cons_zero, List.set_cons_succ]
  refine wpAnyH_take (i := 6) (oi := ⟨some 46, _, _, _, _, _⟩) (v := .bool true) rfl (by kernel_rfl) (by kernel_rfl) (by kernel_rfl) (fun _ _ _ h => h) (Or.inl ⟨by rfl, ?_⟩) hHeld ?_
  · intro ww hS
    try dsimp only at hS
    go_simp
    try with_reducible rfl
    try omega
  try simp only [Act.put, List.setIfInBounds_toArray, List.set_cons_zero, List.set_cons_succ]
  refine wpAnyH_done (by kernel_rfl) ?_ _
  clear hHeld
  have O_8 := L.at_ 1 8 rfl (v := .int .i64 4) rfl
  have O_z := L.lt 1 rfl
  have O_f8 := L.fz 1 8 rfl
  go_upto_region 9 with fail
  clear O_8 O_z O_f8
  replace L := ((L.set 1 8 rfl (.int .i64 5)).is 1 (opv ⟨A0, n0, c0, A1, n1, c1, A2, n2, c2, A3, n3, c3⟩ ⟨kind, addr, err, aad, used, 5, shard, sought, (lf : Int), bit, x, true, 0, tries, item, stamp⟩) rfl)
  try dsimp only [nput] at L
  generalize (v4).setCell ⟨gO, 8, none⟩ (.int .i64 5) = w5 at L ⊢
  replace L := L.drew
  refine wp_region_held_drew (S := fun w' => ∃ v_R : Array Value, v_R.size = 20 ∧ Loc w w' [(gR, 40, v_R), (gO, 40, opv ⟨A0, n0, c0, A1, n1, c1, A2, n2, c2, A3, n3, c3⟩ ⟨kind, addr, err, aad, used, 5, shard, sought, (lf : Int), bit, x, true, 0, tries, item, stamp⟩), (gH, 27, #[.int .u32 (a : Int), .int .i64 p, .slice A n c, .int .i64 (ns : Int), .int .i64 wo, .int .i64 qu, .int .i64 tr])] []) (by kernel_rfl) (⟨_, rfl, L⟩) (fun hHeld => ?_)
  generalize w5.drew = v6 at hHeld L ⊢
  refine wpAnyH_take (i := 0) (oi := ⟨some 48, _, _, _, _, _⟩) (v := .slice (some ⟨bb, oo, none⟩) m d) rfl (by kernel_rfl) (by kernel_rfl) (by kernel_rfl) (fun _ _ _ h => h) (Or.inl ⟨by rfl, ?_⟩) hHeld ?_
  · intro ww hS
    try dsimp only at hS
    go_simp
    try with_reducible rfl
    try omega
  try simp only [Act.put, List.setIfInBounds_toArray, List.set_cons_zero, List.set_cons_succ]
  refine wpAnyH_take (i := 1) (oi := ⟨some 49, _, _, _, _, _⟩) (v := .agg (opv ⟨A0, n0, c0, A1, n1, c1, A2, n2, c2, A3, n3, c3⟩ ⟨kind, addr, err, aad, used, 5, shard, sought, (lf : Int), bit, x, true, 0, tries, item, stamp⟩)) rfl (by kernel_rfl) (by kernel_rfl) (by kernel_rfl) (fun _ _ _ h => h) (yieldsIf_load_row (by rfl) 40 (.tmp 5) rfl gO rfl 40 _ (0, 0) _ (fun _ hS => ((hS.choose_spec.2).bk_ 1 rfl)) Tryz.underlying40 rfl op_sz) hHeld ?_
  try simp only [Act.put, List.setIfInBounds_toArray, List.set_cons_zero, List.set_cons_succ]
  refine wpAnyH_take (i := 2) (oi := ⟨some 6, _, _, _, _, _⟩) (v := .slice (some ⟨bb, oo, none⟩) m d) rfl (by kernel_rfl) (by kernel_rfl) (by kernel_rfl) (fun _ _ _ h => h) (Or.inl ⟨by rfl, ?_⟩) hHeld ?_
  · intro ww hS
    try dsimp only at hS
    go_simp
    try with_reducible rfl
    try omega
  try simp only [Act.put, List.setIfInBounds_toArray, List.set_cons_zero, List.set_cons_succ]
  refine wpAnyH_ready (rs := [3]) (by kernel_rfl) (by simp) ?_
  refine AllReadyH.cons (o := ⟨none, _, _, _, _, _⟩) rfl (fun K0 hK => ?_) AllReadyH.nil
  rw [if_pos (by rfl)]
  refine wp_store_row 40 (.tmp 7) (.tmp 49) rfl gR _ rfl rfl _ _ (L.bk_ 0 rfl) op_sz rfl (opv_one _ _) ?_
  replace L := L.row 0 rfl (opv ⟨A0, n0, c0, A1, n1, c1, A2, n2, c2, A3, n3, c3⟩ ⟨kind, addr, err, aad, used, 5, shard, sought, (lf : Int), bit, x, true, 0, tries, item, stamp⟩)
  try dsimp only [nput] at L
  refine hK.out _ _ ⟨_, rfl, L⟩ (fun hHeld' => ?_)
  clear hHeld hK K0
  have hHeld := hHeld'
  clear hHeld'
  generalize v6.setRow gR (opv ⟨A0, n0, c0, A1, n1, c1, A2, n2, c2, A3, n3, c3⟩ ⟨kind, addr, err, aad, used, 5, shard, sought, (lf : Int), bit, x, true, 0, tries, item, stamp⟩) = v7 at hHeld L ⊢
  try simp only [Act.put]
  refine wpAnyH_done (by kernel_rfl) ?_ _
  clear hHeld
  go_wp2
  refine bodyPost_ret (v := .tuple #[.slice (some ⟨bb, oo, none⟩) m d, .agg (opv ⟨A0, n0, c0, A1, n1, c1, A2, n2, c2, A3, n3, c3⟩ ⟨kind, addr, err, aad, used, 5, shard, sought, (lf : Int), bit, x, true, 0, tries, item, stamp⟩)]) ?_ rfl ?_
  · exact results_tc (fn := Tryz.f39) Tryz.results39 _ _ gR _ _ (0, 0) _ rfl (L.bk_ 0 rfl) Tryz.underlying40 rfl op_sz
  exact ⟨_, _, rfl, hU.below L.K, fun k _ h => h, L.K⟩
set_option maxRecDepth 100000 in
set_option maxHeartbeats 2000000 in
theorem rmx_04ea (ha : a < 4294967296) (hM : Much a p M) (hU : US w B m d ys) (hm : m = lv M + tv M + 1) (hk : s.kind ≠ 4) (hlf : s.leaf = (lf : Int)) (hlv : lf < lv M) (hw : s.word < 18446744073709551616) (hfu : s.full = true) (hcl : cl = lv M + lf / 64) (hb : b = lf % 64) (hat : s.at_ = 0) (hph : s.phase = 4) (hbit : (gt ys cl).testBit b = true) (hone : gt ys cl ≠ 18446744073709551615) :
    Calls Tryz.prog 39 #[.agg #[.int .u32 (a : Int), .int .i64 p, .slice A n c, .int .i64 (ns : Int), .int .i64 wo, .int .i64 qu, .int .i64 tr], .slice B m d, .agg (opv h s)] w (RetRM (ende (worded s (gt ys cl))) h m ys B w) := by
  have hm9 := hM.most
  have hl3 := lv_le hm9
  have ht3 := tv_le hm9
  have hm6 : m ≤ 65536 := by omega
  have hb2 : b < 64 := by omega
  have hcm : cl < m := by unfold tv tq at *; omega
  have TT := fun w => Lib.hid (rtop_any M lf hM.most (by omega) w)
  rw [← hcl, ← hb] at TT
  obtain ⟨bb, oo, hBe, hbb, hcc⟩ := hU.get hcm
  subst hBe
  have TH := fun w => Lib.hid (rhas_any (gt ys cl) b (gt_lt hU.fit cl) hb2 w)
  rw [hbit] at TH
  clear hbit
  obtain ⟨x, hx⟩ : ∃ x, x = gt ys cl := ⟨_, rfl⟩
  rw [← hx] at hcc TH ⊢
  rw [← hx] at hone
  clear hx
  have f3 : ((x : Int) != 18446744073709551615) = true := by simp; omega
  clear hone
  have TG := fun w => Lib.hid (rgoes_end0 (w := w) (h := h) (a := a) (p := p) (sh := (ns : Int)) (wo := wo) (qu := qu) (tr := tr) (A := A) (n := n) (c := c) (s := worded s x) (show (worded s _).kind ≠ 4 from hk))
  have hcm2 : (cl : Int) < (m : Int) := by omega
  clear hcl hb hm9 hl3 ht3 hm ha hk
  rcases s with ⟨kind, addr, err, aad, used, phase, shard, sought, leaf, bit, word, full, at_, tries, item, stamp⟩
  rcases h with ⟨A0, n0, c0, A1, n1, c1, A2, n2, c2, A3, n3, c3⟩
  try dsimp only at *
  subst hlf hat hph hfu
  go_enter Tryz.func39, Tryz.ntmps39
  go_upto_region 1 with (fail)
  have L := Loc.start w
  replace L := (((L).alloc #[.int .u32 (a : Int), .int .i64 p, .slice A n c, .int .i64 (ns : Int), .int .i64 wo, .int .i64 qu, .int .i64 tr] 27).alloc (opv ⟨A0, n0, c0, A1, n1, c1, A2, n2, c2, A3, n3, c3⟩ ⟨kind, addr, err, aad, used, 4, shard, sought, (lf : Int), bit, word, true, 0, tries, item, stamp⟩) 40).alloc #[.int .i64 0, .int .u32 0, .slice none 0 0, .int .i64 0, .int .u32 0, .bool false, .slice none 0 0, .slice none 0 0, .int .i64 0, .int .i64 0, .int .i64 0, .int .i64 0, .int .i64 0, .int .u64 0, .bool false, .slice none 0 0, .int .i64 0, .int .i64 0, .int .i64 0, .int .i64 0] 40
  try simp only [World.size_alloc] at L
  replace L := L.is 0 (opv hd0 sc0) rfl
  try dsimp only [nput] at L
  generalize (((w).alloc (.cells #[.int .u32 (a : Int), .int .i64 p, .slice A n c, .int .i64 (ns : Int), .int .i64 wo, .int .i64 qu, .int .i64 tr] 27)).alloc (.cells (opv ⟨A0, n0, c0, A1, n1, c1, A2, n2, c2, A3, n3, c3⟩ ⟨kind, addr, err, aad, used, 4, shard, sought, (lf : Int), bit, word, true, 0, tries, item, stamp⟩) 40)).alloc (.cells #[.int .i64 0, .int .u32 0, .slice none 0 0, .int .i64 0, .int .u32 0, .bool false, .slice none 0 0, .slice none 0 0, .int .i64 0, .int .i64 0, .int .i64 0, .int .i64 0, .int .i64 0, .int .u64 0, .bool false, .slice none 0 0, .int .i64 0, .int .i64 0, .int .i64 0, .int .i64 0] 40) = w1 at L ⊢
  generalize w.heap.size + 1 + 1 = gR at L ⊢
  generalize w.heap.size + 1 = gO at L ⊢
  generalize w.heap.size = gH at L ⊢
  have H_0 := L.at_ 2 0 rfl (v := .int .u32 (a : Int)) rfl
  have H_1 := L.at_ 2 1 rfl (v := .int .i64 p) rfl
  have H_z := L.lt 2 rfl
  go_wp2_with fail
  refine (rmany_yes hM).mono ?_
  rintro e w2 ⟨rfl, K'⟩
  clear H_0 H_1 H_z
  replace L := L.over K'
  have O_11 := L.at_ 1 11 rfl (v := .int .i64 (lf : Int)) rfl
  have O_z := L.lt 1 rfl
  go_wp2_with fail
  refine ((TT _).out).mono ?_
  rintro e w' ⟨rfl, rfl⟩
  clear O_11 O_z
  have O_16 := L.at_ 1 16 rfl (v := .int .i64 0) rfl
  have O_8 := L.at_ 1 8 rfl (v := .int .i64 4) rfl
  have O_13 := L.at_ 1 13 rfl (v := .int .u64 ((word : Nat) : Int)) rfl
  have O_z := L.lt 1 rfl
  have O_f13 := L.fz 1 13 rfl
  have X := (L.K.cell (p := ⟨bb, oo + cl, none⟩) hbb).trans hcc
  go_upto_region 7 with fail
  clear O_16 O_8 O_13 O_z O_f13 X
  replace L := ((L.set 1 13 rfl (.int .u64 ((x : Nat) : Int))).is 1 (opv ⟨A0, n0, c0, A1, n1, c1, A2, n2, c2, A3, n3, c3⟩ ⟨kind, addr, err, aad, used, 4, shard, sought, (lf : Int), bit, x, true, 0, tries, item, stamp⟩) rfl)
  try dsimp only [nput] at L
  generalize (w2).setCell ⟨gO, 13, none⟩ (.int .u64 ((x : Nat) : Int)) = w3 at L ⊢
  replace L := L.drew
  refine wp_region_held_drew (S := fun w' => Loc w w' [(gR, 40, opv hd0 sc0), (gO, 40, opv ⟨A0, n0, c0, A1, n1, c1, A2, n2, c2, A3, n3, c3⟩ ⟨kind, addr, err, aad, used, 4, shard, sought, (lf : Int), bit, x, true, 0, tries, item, stamp⟩), (gH, 27, #[.int .u32 (a : Int), .int .i64 p, .slice A n c, .int .i64 (ns : Int), .int .i64 wo, .int .i64 qu, .int .i64 tr])] []) (by kernel_rfl) L (fun hHeld => ?_)
  generalize w3.drew = v4 at hHeld L ⊢
  refine wpAnyH_take (i := 0) (oi := ⟨some 40, _, _, _, _, _⟩) (v := .pointer (some ⟨gO, 13, none⟩)) rfl (by kernel_rfl) (by kernel_rfl) (by kernel_rfl) (fun _ _ _ h => h) (Or.inl ⟨by rfl, ?_⟩) hHeld ?_
  · intro ww hS
    try dsimp only at hS
    go_simp
    try with_reducible rfl
    try omega
  try simp only [Act.put, List.setIfInBounds_toArray, List.set_cons_zero, List.set_cons_succ]
  refine wpAnyH_take (i := 1) (oi := ⟨some 41, _, _, _, _, _⟩) (v := .int .u64 ((x : Nat) : Int)) rfl (by kernel_rfl) (by kernel_rfl) (by kernel_rfl) (fun _ _ _ h => h) (Or.inl ⟨by rfl, ?_⟩) hHeld ?_
  · intro ww hS
    try dsimp only at hS
    have O_13 := (hS).at_ 1 13 rfl (v := .int .u64 ((x : Nat) : Int)) rfl
    have O_z := (hS).lt 1 rfl
    go_simp
    try with_reducible rfl
    try omega
  try simp only [Act.put, List.setIfInBounds_toArray, List.set_cons_zero, List.set_cons_succ]
  refine wpAnyH_take (i := 2) (oi := ⟨some 42, _, _, _, _, _⟩) (v := .int .i64 (b : Int)) rfl (by kernel_rfl) (by kernel_rfl) (by kernel_rfl) (fun _ _ _ h => h) (Or.inl ⟨by rfl, ?_⟩) hHeld ?_
  · intro ww hS
    try dsimp only at hS
    go_simp
    try with_reducible rfl
    try omega
  try simp only [Act.put, List.setIfInBounds_toArray, List.set_cons_zero, List.set_cons_succ]
  refine wpAnyH_take (i := 4) (oi := ⟨some 44, _, _, _, _, _⟩) (v := .pointer (some ⟨gO, 14, none⟩)) rfl (by kernel_rfl) (by kernel_rfl) (by kernel_rfl) (fun _ _ _ h => h) (Or.inl ⟨by rfl, ?_⟩) hHeld ?_
  · intro ww hS
    try dsimp only at hS
    go_simp
    try with_reducible rfl
    try omega
  try simp only [Act.put, List.setIfInBounds_toArray, List.set_cons_zero, List.set_cons_succ]
  refine wpAnyH_take (i := 5) (oi := ⟨some 45, _, _, _, _, _⟩) (v := .bool true) rfl (by kernel_rfl) (by kernel_rfl) (by kernel_rfl) (fun _ _ _ h => h) (Or.inl ⟨by rfl, ?_⟩) hHeld ?_
  · intro ww hS
    try dsimp only at hS
    have O_14 := (hS).at_ 1 14 rfl (v := .bool true) rfl
    have O_z := (hS).lt 1 rfl
    go_simp
    try with_reducible rfl
    try omega
  try simp only [Act.put, List.setIfInBounds_toArray, List.set_cons_zero, List.set_cons_succ]
  refine wpAnyH_ready (rs := [3]) (by kernel_rfl) (by simp) ?_
  refine AllReadyH.cons (o := ⟨some 43, _, _, _, _, _⟩) rfl (fun K0 hK => ?_) AllReadyH.nil
  go_simp
  refine ((TH _).out).mono ?_
  rintro e w' ⟨rfl, rfl⟩
  refine hK.out _ _ L (fun hHeld' => ?_)
  clear hHeld hK K0
  have hHeld := hHeld'
  clear hHeld'
  try simp only [Act.put, List.setIfInBounds_toArray, List.set_cons_zero, List.set_cons_succ]
  refine wpAnyH_take (i := 6) (oi := ⟨some 46, _, _, _, _, _⟩) (v := .bool false) rfl (by kernel_rfl) (by kernel_rfl) (by kernel_rfl) (fun _ _ _ h => h) (Or.inl ⟨by rfl, ?_⟩) hHeld ?_
  · intro ww hS
    try dsimp only at hS
    go_simp
    try with_reducible rfl
    try omega
  try simp only [Act.put, List.setIfInBounds_toArray, List.set_cons_zero, List.set_cons_succ]
  refine wpAnyH_done (by kernel_rfl) ?_ _
  clear hHeld
  have O_16 := L.at_ 1 16 rfl (v := .int .i64 0) rfl
  have O_14 := L.at_ 1 14 rfl (v := .bool true) rfl
  have O_13 := L.at_ 1 13 rfl (v := .int .u64 ((x : Nat) : Int)) rfl
  have O_z := L.lt 1 rfl
  go_upto_region 17 with fail
  clear O_16 O_14 O_13 O_z
  go_wp2_with (first | (refine wpList_load_row rfl 27 (.tmp 3) rfl gH rfl _ _ (0, 0) _ (L.bk_ 2 rfl) Tryz.underlying27 rfl cf_sz ?_) | (refine wpList_load_row rfl 40 (.tmp 5) rfl gO rfl _ _ (0, 0) _ (L.bk_ 1 rfl) Tryz.underlying40 rfl op_sz ?_))
  refine ((TG _).out).mono ?_
  rintro e w5 ⟨rfl, K'⟩
  replace L := L.over K'
  go_wp2_with (refine wpList_store_row rfl 40 (.tmp 7) (.tmp 88) rfl gR _ rfl rfl _ _ (L.bk_ 0 rfl) op_sz rfl (opv_one _ _) ?_)
  replace L := (L.row 0 rfl (opv ⟨A0, n0, c0, A1, n1, c1, A2, n2, c2, A3, n3, c3⟩ (ende (worded ⟨kind, addr, err, aad, used, 4, shard, sought, (lf : Int), bit, word, true, 0, tries, item, stamp⟩ x))))
  try dsimp only [nput] at L
  generalize (w5).setRow gR (opv ⟨A0, n0, c0, A1, n1, c1, A2, n2, c2, A3, n3, c3⟩ (ende (worded ⟨kind, addr, err, aad, used, 4, shard, sought, (lf : Int), bit, word, true, 0, tries, item, stamp⟩ x))) = w6 at L ⊢
  refine bodyPost_ret (v := .tuple #[.slice (some ⟨bb, oo, none⟩) m d, .agg (opv ⟨A0, n0, c0, A1, n1, c1, A2, n2, c2, A3, n3, c3⟩ (ende (worded ⟨kind, addr, err, aad, used, 4, shard, sought, (lf : Int), bit, word, true, 0, tries, item, stamp⟩ x)))]) ?_ rfl ?_
  · exact results_tc (fn := Tryz.f39) Tryz.results39 _ _ gR _ _ (0, 0) _ rfl (L.bk_ 0 rfl) Tryz.underlying40 rfl op_sz
  exact ⟨_, _, rfl, hU.below L.K, fun k _ h => h, L.K⟩
set_option maxRecDepth 100000 in
set_option maxHeartbeats 2000000 in
theorem rmx_04eb (ha : a < 4294967296) (hM : Much a p M) (hU : US w B m d ys) (hm : m = lv M + tv M + 1) (hk : s.kind ≠ 4) (hlf : s.leaf = (lf : Int)) (hlv : lf < lv M) (hw : s.word < 18446744073709551616) (hfu : s.full = true) (hcl : cl = lv M + lf / 64) (hb : b = lf % 64) (hat : s.at_ = 0) (hph : s.phase = 4) (hbit : (gt ys cl).testBit b = true) (hone : gt ys cl = 18446744073709551615) :
    Calls Tryz.prog 39 #[.agg #[.int .u32 (a : Int), .int .i64 p, .slice A n c, .int .i64 (ns : Int), .int .i64 wo, .int .i64 qu, .int .i64 tr], .slice B m d, .agg (opv h s)] w (RetRM (root_ (worded s (gt ys cl))) h m ys B w) := by
  have hm9 := hM.most
  have hl3 := lv_le hm9
  have ht3 := tv_le hm9
  have hm6 : m ≤ 65536 := by omega
  have hb2 : b < 64 := by omega
  have hcm : cl < m := by unfold tv tq at *; omega
  have TT := fun w => Lib.hid (rtop_any M lf hM.most (by omega) w)
  rw [← hcl, ← hb] at TT
  obtain ⟨bb, oo, hBe, hbb, hcc⟩ := hU.get hcm
  subst hBe
  have TH := fun w => Lib.hid (rhas_any (gt ys cl) b (gt_lt hU.fit cl) hb2 w)
  rw [hbit] at TH
  clear hbit
  obtain ⟨x, hx⟩ : ∃ x, x = gt ys cl := ⟨_, rfl⟩
  rw [← hx] at hcc TH ⊢
  rw [← hx] at hone
  clear hx
  have f3 : ((x : Int) != 18446744073709551615) = false := by simp; omega
  clear hone
  have hcm2 : (cl : Int) < (m : Int) := by omega
  clear hcl hb hm9 hl3 ht3 hm ha hk
  rcases s with ⟨kind, addr, err, aad, used, phase, shard, sought, leaf, bit, word, full, at_, tries, item, stamp⟩
  rcases h with ⟨A0, n0, c0, A1, n1, c1, A2, n2, c2, A3, n3, c3⟩
  try dsimp only at *
  subst hlf hat hph hfu
  go_enter Tryz.func39, Tryz.ntmps39
  go_upto_region 1 with (fail)
  have L := Loc.start w
  replace L := (((L).alloc #[.int .u32 (a : Int), .int .i64 p, .slice A n c, .int .i64 (ns : Int), .int .i64 wo, .int .i64 qu, .int .i64 tr] 27).alloc (opv ⟨A0, n0, c0, A1, n1, c1, A2, n2, c2, A3, n3, c3⟩ ⟨kind, addr, err, aad, used, 4, shard, sought, (lf : Int), bit, word, true, 0, tries, item, stamp⟩) 40).alloc #[.int .i64 0, .int .u32 0, .slice none 0 0, .int .i64 0, .int .u32 0, .bool false, .slice none 0 0, .slice none 0 0, .int .i64 0, .int .i64 0, .int .i64 0, .int .i64 0, .int .i64 0, .int .u64 0, .bool false, .slice none 0 0, .int .i64 0, .int .i64 0, .int .i64 0, .int .i64 0] 40
  try simp only [World.size_alloc] at L
  replace L := L.is 0 (opv hd0 sc0) rfl
  try dsimp only [nput] at L
  generalize (((w).alloc (.cells #[.int .u32 (a : Int), .int .i64 p, .slice A n c, .int .i64 (ns : Int), .int .i64 wo, .int .i64 qu, .int .i64 tr] 27)).alloc (.cells (opv ⟨A0, n0, c0, A1, n1, c1, A2, n2, c2, A3, n3, c3⟩ ⟨kind, addr, err, aad, used, 4, shard, sought, (lf : Int), bit, word, true, 0, tries, item, stamp⟩) 40)).alloc (.cells #[.int .i64 0, .int .u32 0, .slice none 0 0, .int .i64 0, .int .u32 0, .bool false, .slice none 0 0, .slice none 0 0, .int .i64 0, .int .i64 0, .int .i64 0, .int .i64 0, .int .i64 0, .int .u64 0, .bool false, .slice none 0 0, .int .i64 0, .int .i64 0, .int .i64 0, .int .i64 0] 40) = w1 at L ⊢
  generalize w.heap.size + 1 + 1 = gR at L ⊢
  generalize w.heap.size + 1 = gO at L ⊢
  generalize w.heap.size = gH at L ⊢
  have H_0 := L.at_ 2 0 rfl (v := .int .u32 (a : Int)) rfl
  have H_1 := L.at_ 2 1 rfl (v := .int .i64 p) rfl
  have H_z := L.lt 2 rfl
  go_wp2_with fail
  refine (rmany_yes hM).mono ?_
  rintro e w2 ⟨rfl, K'⟩
  clear H_0 H_1 H_z
  replace L := L.over K'
  have O_11 := L.at_ 1 11 rfl (v := .int .i64 (lf : Int)) rfl
  have O_z := L.lt 1 rfl
  go_wp2_with fail
  refine ((TT _).out).mono ?_
  rintro e w' ⟨rfl, rfl⟩
  clear O_11 O_z
  have O_16 := L.at_ 1 16 rfl (v := .int .i64 0) rfl
  have O_8 := L.at_ 1 8 rfl (v := .int .i64 4) rfl
  have O_13 := L.at_ 1 13 rfl (v := .int .u64 ((word : Nat) : Int)) rfl
  have O_z := L.lt 1 rfl
  have O_f13 := L.fz 1 13 rfl
  have X := (L.K.cell (p := ⟨bb, oo + cl, none⟩) hbb).trans hcc
  go_upto_region 7 with fail
  clear O_16 O_8 O_13 O_z O_f13 X
  replace L := ((L.set 1 13 rfl (.int .u64 ((x : Nat) : Int))).is 1 (opv ⟨A0, n0, c0, A1, n1, c1, A2, n2, c2, A3, n3, c3⟩ ⟨kind, addr, err, aad, used, 4, shard, sought, (lf : Int), bit, x, true, 0, tries, item, stamp⟩) rfl)
  try dsimp only [nput] at L
  generalize (w2).setCell ⟨gO, 13, none⟩ (.int .u64 ((x : Nat) : Int)) = w3 at L ⊢
  replace L := L.drew
  refine wp_region_held_drew (S := fun w' => Loc w w' [(gR, 40, opv hd0 sc0), (gO, 40, opv ⟨A0, n0, c0, A1, n1, c1, A2, n2, c2, A3, n3, c3⟩ ⟨kind, addr, err, aad, used, 4, shard, sought, (lf : Int), bit, x, true, 0, tries, item, stamp⟩), (gH, 27, #[.int .u32 (a : Int), .int .i64 p, .slice A n c, .int .i64 (ns : Int), .int .i64 wo, .int .i64 qu, .int .i64 tr])] []) (by kernel_rfl) L (fun hHeld => ?_)
  generalize w3.drew = v4 at hHeld L ⊢
  refine wpAnyH_take (i := 0) (oi := ⟨some 40, _, _, _, _, _⟩) (v := .pointer (some ⟨gO, 13, none⟩)) rfl (by kernel_rfl) (by kernel_rfl) (by kernel_rfl) (fun _ _ _ h => h) (Or.inl ⟨by rfl, ?_⟩) hHeld ?_
  · intro ww hS
    try dsimp only at hS
    go_simp
    try with_reducible rfl
    try omega
  try simp only [Act.put, List.setIfInBounds_toArray, List.set_cons_zero, List.set_cons_succ]
  refine wpAnyH_take (i := 1) (oi := ⟨some 41, _, _, _, _, _⟩) (v := .int .u64 ((x : Nat) : Int)) rfl (by kernel_rfl) (by kernel_rfl) (by kernel_rfl) (fun _ _ _ h => h) (Or.inl ⟨by rfl, ?_⟩) hHeld ?_
  · intro ww hS
    try dsimp only at hS
    have O_13 := (hS).at_ 1 13 rfl (v := .int .u64 ((x : Nat) : Int)) rfl
    have O_z := (hS).lt 1 rfl
    go_simp
    try with_reducible rfl
    try omega
  try simp only [Act.put, List.setIfInBounds_toArray, List.set_cons_zero, List.set_cons_succ]
  refine wpAnyH_take (i := 2) (oi := ⟨some 42, _, _, _, _, _⟩) (v := .int .i64 (b : Int)) rfl (by kernel_rfl) (by kernel_rfl) (by kernel_rfl) (fun _ _ _ h => h) (Or.inl ⟨by rfl, ?_⟩) hHeld ?_
  · intro ww hS
    try dsimp only at hS
    go_simp
    try with_reducible rfl
    try omega
  try simp only [Act.put, List.setIfInBounds_toArray, List.set_cons_zero, List.set_cons_succ]
  refine wpAnyH_take (i := 4) (oi := ⟨some 44, _, _, _, _, _⟩) (v := .pointer (some ⟨gO, 14, none⟩)) rfl (by kernel_rfl) (by kernel_rfl) (by kernel_rfl) (fun _ _ _ h => h) (Or.inl ⟨by rfl, ?_⟩) hHeld ?_
  · intro ww hS
    try dsimp only at hS
    go_simp
    try with_reducible rfl
    try omega
  try simp only [Act.put, List.setIfInBounds_toArray, List.set_cons_zero, List.set_cons_succ]
  refine wpAnyH_take (i := 5) (oi := ⟨some 45, _, _, _, _, _⟩) (v := .bool true) rfl (by kernel_rfl) (by kernel_rfl) (by kernel_rfl) (fun _ _ _ h => h) (Or.inl ⟨by rfl, ?_⟩) hHeld ?_
  · intro ww hS
    try dsimp only at hS
    have O_14 := (hS).at_ 1 14 rfl (v := .bool true) rfl
    have O_z := (hS).lt 1 rfl
    go_simp
    try with_reducible rfl
    try omega
  try simp only [Act.put, List.setIfInBounds_toArray, List.set_cons_zero, List.set_cons_succ]
  refine wpAnyH_ready (rs := [3]) (by kernel_rfl) (by simp) ?_
  refine AllReadyH.cons (o := ⟨some 43, _, _, _, _, _⟩) rfl (fun K0 hK => ?_) AllReadyH.nil
  go_simp
  refine ((TH _).out).mono ?_
  rintro e w' ⟨rfl, rfl⟩
  refine hK.out _ _ L (fun hHeld' => ?_)
  clear hHeld hK K0
  have hHeld := hHeld'
  clear hHeld'
  try simp only [Act.put, List.setIfInBounds_toArray, List.set_cons_zero, List.set_cons_succ]
  refine wpAnyH_take (i := 6) (oi := ⟨some 46, _, _, _, _, _⟩) (v := .bool false) rfl (by kernel_rfl) (by kernel_rfl) (by kernel_rfl) (fun _ _ _ h => h) (Or.inl ⟨by rfl, ?_⟩) hHeld ?_
  · intro ww hS
    try dsimp only at hS
    go_simp
    try with_reducible rfl
    try omega
  try simp only [Act.put, List.setIfInBounds_toArray, List.set_cons_zero, List.set_cons_succ]
  refine wpAnyH_done (by kernel_rfl) ?_ _
  clear hHeld
  have O_16 := L.at_ 1 16 rfl (v := .int .i64 0) rfl
  have O_14 := L.at_ 1 14 rfl (v := .bool true) rfl
  have O_13 := L.at_ 1 13 rfl (v := .int .u64 ((x : Nat) : Int)) rfl
  have O_z := L.lt 1 rfl
  go_upto_region 18 with fail
  clear O_16 O_14 O_13 O_z
  have O_16 := L.at_ 1 16 rfl (v := .int .i64 0) rfl
  have O_z := L.lt 1 rfl
  have O_f16 := L.fz 1 16 rfl
  go_upto_region 19 with fail
  clear O_16 O_z O_f16
  replace L := ((L.set 1 16 rfl (.int .i64 1)).is 1 (opv ⟨A0, n0, c0, A1, n1, c1, A2, n2, c2, A3, n3, c3⟩ ⟨kind, addr, err, aad, used, 4, shard, sought, (lf : Int), bit, x, true, 1, tries, item, stamp⟩) rfl)
  try dsimp only [nput] at L
  generalize (v4).setCell ⟨gO, 16, none⟩ (.int .i64 1) = w5 at L ⊢
  have O_8 := L.at_ 1 8 rfl (v := .int .i64 4) rfl
  have O_z := L.lt 1 rfl
  have O_f8 := L.fz 1 8 rfl
  go_upto_region 20 with fail
  clear O_8 O_z O_f8
  replace L := ((L.set 1 8 rfl (.int .i64 4)).is 1 (opv ⟨A0, n0, c0, A1, n1, c1, A2, n2, c2, A3, n3, c3⟩ ⟨kind, addr, err, aad, used, 4, shard, sought, (lf : Int), bit, x, true, 1, tries, item, stamp⟩) rfl)
  try dsimp only [nput] at L
  generalize (w5).setCell ⟨gO, 8, none⟩ (.int .i64 4) = w6 at L ⊢
  replace L := L.drew
  refine wp_region_held_drew (S := fun w' => ∃ v_R : Array Value, v_R.size = 20 ∧ Loc w w' [(gR, 40, v_R), (gO, 40, opv ⟨A0, n0, c0, A1, n1, c1, A2, n2, c2, A3, n3, c3⟩ ⟨kind, addr, err, aad, used, 4, shard, sought, (lf : Int), bit, x, true, 1, tries, item, stamp⟩), (gH, 27, #[.int .u32 (a : Int), .int .i64 p, .slice A n c, .int .i64 (ns : Int), .int .i64 wo, .int .i64 qu, .int .i64 tr])] []) (by kernel_rfl) (⟨_, rfl, L⟩) (fun hHeld => ?_)
  generalize w6.drew = v7 at hHeld L ⊢
  refine wpAnyH_take (i := 0) (oi := ⟨some 91, _, _, _, _, _⟩) (v := .slice (some ⟨bb, oo, none⟩) m d) rfl (by kernel_rfl) (by kernel_rfl) (by kernel_rfl) (fun _ _ _ h => h) (Or.inl ⟨by rfl, ?_⟩) hHeld ?_
  · intro ww hS
    try dsimp only at hS
    go_simp
    try with_reducible rfl
    try omega
  try simp only [Act.put, List.setIfInBounds_toArray, List.set_cons_zero, List.set_cons_succ]
  refine wpAnyH_take (i := 1) (oi := ⟨some 92, _, _, _, _, _⟩) (v := .agg (opv ⟨A0, n0, c0, A1, n1, c1, A2, n2, c2, A3, n3, c3⟩ ⟨kind, addr, err, aad, used, 4, shard, sought, (lf : Int), bit, x, true, 1, tries, item, stamp⟩)) rfl (by kernel_rfl) (by kernel_rfl) (by kernel_rfl) (fun _ _ _ h => h) (yieldsIf_load_row (by rfl) 40 (.tmp 5) rfl gO rfl 40 _ (0, 0) _ (fun _ hS => ((hS.choose_spec.2).bk_ 1 rfl)) Tryz.underlying40 rfl op_sz) hHeld ?_
  try simp only [Act.put, List.setIfInBounds_toArray, List.set_cons_zero, List.set_cons_succ]
  refine wpAnyH_take (i := 2) (oi := ⟨some 6, _, _, _, _, _⟩) (v := .slice (some ⟨bb, oo, none⟩) m d) rfl (by kernel_rfl) (by kernel_rfl) (by kernel_rfl) (fun _ _ _ h => h) (Or.inl ⟨by rfl, ?_⟩) hHeld ?_
  · intro ww hS
    try dsimp only at hS
    go_simp
    try with_reducible rfl
    try omega
  try simp only [Act.put, List.setIfInBounds_toArray, List.set_cons_zero, List.set_cons_succ]
  refine wpAnyH_ready (rs := [3]) (by kernel_rfl) (by simp) ?_
  refine AllReadyH.cons (o := ⟨none, _, _, _, _, _⟩) rfl (fun K0 hK => ?_) AllReadyH.nil
  rw [if_pos (by rfl)]
  refine wp_store_row 40 (.tmp 7) (.tmp 92) rfl gR _ rfl rfl _ _ (L.bk_ 0 rfl) op_sz rfl (opv_one _ _) ?_
  replace L := L.row 0 rfl (opv ⟨A0, n0, c0, A1, n1, c1, A2, n2, c2, A3, n3, c3⟩ ⟨kind, addr, err, aad, used, 4, shard, sought, (lf : Int), bit, x, true, 1, tries, item, stamp⟩)
  try dsimp only [nput] at L
  refine hK.out _ _ ⟨_, rfl, L⟩ (fun hHeld' => ?_)
  clear hHeld hK K0
  have hHeld := hHeld'
  clear hHeld'
  generalize v7.setRow gR (opv ⟨A0, n0, c0, A1, n1, c1, A2, n2, c2, A3, n3, c3⟩ ⟨kind, addr, err, aad, used, 4, shard, sought, (lf : Int), bit, x, true, 1, tries, item, stamp⟩) = v8 at hHeld L ⊢
  try simp only [Act.put]
  refine wpAnyH_done (by kernel_rfl) ?_ _
  clear hHeld
  go_wp2
  refine bodyPost_ret (v := .tuple #[.slice (some ⟨bb, oo, none⟩) m d, .agg (opv ⟨A0, n0, c0, A1, n1, c1, A2, n2, c2, A3, n3, c3⟩ ⟨kind, addr, err, aad, used, 4, shard, sought, (lf : Int), bit, x, true, 1, tries, item, stamp⟩)]) ?_ rfl ?_
  · exact results_tc (fn := Tryz.f39) Tryz.results39 _ _ gR _ _ (0, 0) _ rfl (L.bk_ 0 rfl) Tryz.underlying40 rfl op_sz
  exact ⟨_, _, rfl, hU.below L.K, fun k _ h => h, L.K⟩
set_option maxRecDepth 100000 in
set_option maxHeartbeats 2000000 in
theorem rmx_05ya (ha : a < 4294967296) (hM : Much a p M) (hU : US w B m d ys) (hm : m = lv M + tv M + 1) (hk : s.kind ≠ 4) (hlf : s.leaf = (lf : Int)) (hlv : lf < lv M) (hw : s.word < 18446744073709551616) (hfu : s.full = true) (hcl : cl = lv M + lf / 64) (hb : b = lf % 64) (hat : s.at_ = 0) (hph : s.phase = 5) (heq : gt ys cl = s.word) (hone : setb s.word b ≠ 18446744073709551615) :
    Calls Tryz.prog 39 #[.agg #[.int .u32 (a : Int), .int .i64 p, .slice A n c, .int .i64 (ns : Int), .int .i64 wo, .int .i64 qu, .int .i64 tr], .slice B m d, .agg (opv h s)] w (RetRM (ende (worded s (setb s.word b))) h m (ys.set cl (setb s.word b)) B w) := by
  have hm9 := hM.most
  have hl3 := lv_le hm9
  have ht3 := tv_le hm9
  have hm6 : m ≤ 65536 := by omega
  have hb2 : b < 64 := by omega
  have hcm : cl < m := by unfold tv tq at *; omega
  have TT := fun w => Lib.hid (rtop_any M lf hM.most (by omega) w)
  rw [← hcl, ← hb] at TT
  obtain ⟨bb, oo, hBe, hbb, hcc⟩ := hU.get hcm
  subst hBe
  have TL := fun w => Lib.hid (rclear_any s.word b hw hb2 w)
  have TSt := fun w => Lib.hid (rset_any s.word b hw hb2 w)
  have hy := setb_lt hw hb2
  obtain ⟨y, hy1⟩ : ∃ y, y = setb s.word b := ⟨_, rfl⟩
  rw [← hy1] at hy ⊢
  rw [← hy1] at hone
  replace TSt := fun w => Lib.hid ((show setb s.word b = y from hy1.symm) ▸ (TSt w).out)
  generalize clrb s.word b = z at TL
  clear hy1
  rw [heq] at hcc
  have f1 : ((s.word : Int) == (s.word : Int)) = true := by simp
  have TSe : ∀ w, US w (some ⟨bb, oo, none⟩) m d ys → Hid (Calls Tryz.prog 33 #[.slice (some ⟨bb, oo, none⟩) m d, .int .i64 (cl : Nat), .int .u64 (y : Nat)] w (RetSM m (ys.set cl y) w)) := fun w U => by have := crset_new U (cl : Int) hm6 hy; rw [stI_nat] at this; exact this
  clear heq
  have f3 : ((y : Int) != 18446744073709551615) = true := by simp; omega
  clear hone
  have TG := fun w => Lib.hid (rgoes_end0 (w := w) (h := h) (a := a) (p := p) (sh := (ns : Int)) (wo := wo) (qu := qu) (tr := tr) (A := A) (n := n) (c := c) (s := worded s y) (show (worded s _).kind ≠ 4 from hk))
  have hcm2 : (cl : Int) < (m : Int) := by omega
  clear hcl hb hm9 hl3 ht3 hm ha hk
  rcases s with ⟨kind, addr, err, aad, used, phase, shard, sought, leaf, bit, word, full, at_, tries, item, stamp⟩
  rcases h with ⟨A0, n0, c0, A1, n1, c1, A2, n2, c2, A3, n3, c3⟩
  try dsimp only at *
  subst hlf hat hph hfu
  go_enter Tryz.func39, Tryz.ntmps39
  go_upto_region 1 with (fail)
  have L := Loc.start w
  replace L := (((L).alloc #[.int .u32 (a : Int), .int .i64 p, .slice A n c, .int .i64 (ns : Int), .int .i64 wo, .int .i64 qu, .int .i64 tr] 27).alloc (opv ⟨A0, n0, c0, A1, n1, c1, A2, n2, c2, A3, n3, c3⟩ ⟨kind, addr, err, aad, used, 5, shard, sought, (lf : Int), bit, word, true, 0, tries, item, stamp⟩) 40).alloc #[.int .i64 0, .int .u32 0, .slice none 0 0, .int .i64 0, .int .u32 0, .bool false, .slice none 0 0, .slice none 0 0, .int .i64 0, .int .i64 0, .int .i64 0, .int .i64 0, .int .i64 0, .int .u64 0, .bool false, .slice none 0 0, .int .i64 0, .int .i64 0, .int .i64 0, .int .i64 0] 40
  try simp only [World.size_alloc] at L
  replace L := L.is 0 (opv hd0 sc0) rfl
  try dsimp only [nput] at L
  generalize (((w).alloc (.cells #[.int .u32 (a : Int), .int .i64 p, .slice A n c, .int .i64 (ns : Int), .int .i64 wo, .int .i64 qu, .int .i64 tr] 27)).alloc (.cells (opv ⟨A0, n0, c0, A1, n1, c1, A2, n2, c2, A3, n3, c3⟩ ⟨kind, addr, err, aad, used, 5, shard, sought, (lf : Int), bit, word, true, 0, tries, item, stamp⟩) 40)).alloc (.cells #[.int .i64 0, .int .u32 0, .slice none 0 0, .int .i64 0, .int .u32 0, .bool false, .slice none 0 0, .slice none 0 0, .int .i64 0, .int .i64 0, .int .i64 0, .int .i64 0, .int .i64 0, .int .u64 0, .bool false, .slice none 0 0, .int .i64 0, .int .i64 0, .int .i64 0, .int .i64 0] 40) = w1 at L ⊢
  generalize w.heap.size + 1 + 1 = gR at L ⊢
  generalize w.heap.size + 1 = gO at L ⊢
  generalize w.heap.size = gH at L ⊢
  have H_0 := L.at_ 2 0 rfl (v := .int .u32 (a : Int)) rfl
  have H_1 := L.at_ 2 1 rfl (v := .int .i64 p) rfl
  have H_z := L.lt 2 rfl
  go_wp2_with fail
  refine (rmany_yes hM).mono ?_
  rintro e w2 ⟨rfl, K'⟩
  clear H_0 H_1 H_z
  replace L := L.over K'
  have O_11 := L.at_ 1 11 rfl (v := .int .i64 (lf : Int)) rfl
  have O_z := L.lt 1 rfl
  go_wp2_with fail
  refine ((TT _).out).mono ?_
  rintro e w' ⟨rfl, rfl⟩
  clear O_11 O_z
  have O_16 := L.at_ 1 16 rfl (v := .int .i64 0) rfl
  have O_8 := L.at_ 1 8 rfl (v := .int .i64 5) rfl
  have O_13 := L.at_ 1 13 rfl (v := .int .u64 ((word : Nat) : Int)) rfl
  have O_z := L.lt 1 rfl
  go_wp2_with fail
  refine ((TL _).out).mono ?_
  rintro e w' ⟨rfl, rfl⟩
  clear O_16 O_8 O_13 O_z
  have O_14 := L.at_ 1 14 rfl (v := .bool true) rfl
  have O_13 := L.at_ 1 13 rfl (v := .int .u64 ((word : Nat) : Int)) rfl
  have O_z := L.lt 1 rfl
  go_wp2_with fail
  refine ((TSt _).out).mono ?_
  rintro e w' ⟨rfl, rfl⟩
  clear O_14 O_13 O_z
  go_upto_region 13 with (fail)
  replace L := L.drew
  refine wp_region_held_drew (S := fun w' => Loc w w' [(gR, 40, opv hd0 sc0), (gO, 40, opv ⟨A0, n0, c0, A1, n1, c1, A2, n2, c2, A3, n3, c3⟩ ⟨kind, addr, err, aad, used, 5, shard, sought, (lf : Int), bit, word, true, 0, tries, item, stamp⟩), (gH, 27, #[.int .u32 (a : Int), .int .i64 p, .slice A n c, .int .i64 (ns : Int), .int .i64 wo, .int .i64 qu, .int .i64 tr])] []) (by kernel_rfl) L (fun hHeld => ?_)
  generalize w2.drew = v3 at hHeld L ⊢
  refine wpAnyH_take (i := 0) (oi := ⟨some 60, _, _, _, _, _⟩) (v := .slice (some ⟨bb, oo, none⟩) m d) rfl (by kernel_rfl) (by kernel_rfl) (by kernel_rfl) (fun _ _ _ h => h) (Or.inl ⟨by rfl, ?_⟩) hHeld ?_
  · intro ww hS
    try dsimp only at hS
    go_simp
    try with_reducible rfl
    try omega
  try simp only [Act.put, List.setIfInBounds_toArray, List.set_cons_zero, List.set_cons_succ]
  refine wpAnyH_take (i := 1) (oi := ⟨some 61, _, _, _, _, _⟩) (v := .int .i64 (cl : Int)) rfl (by kernel_rfl) (by kernel_rfl) (by kernel_rfl) (fun _ _ _ h => h) (Or.inl ⟨by rfl, ?_⟩) hHeld ?_
  · intro ww hS
    try dsimp only at hS
    go_simp
    try with_reducible rfl
    try omega
  try simp only [Act.put, List.setIfInBounds_toArray, List.set_cons_zero, List.set_cons_succ]
  refine wpAnyH_take (i := 2) (oi := ⟨some 62, _, _, _, _, _⟩) (v := .pointer (some ⟨bb, oo + cl, none⟩)) rfl (by kernel_rfl) (by kernel_rfl) (by kernel_rfl) (fun _ _ _ h => h) (Or.inl ⟨by rfl, ?_⟩) hHeld ?_
  · intro ww hS
    try dsimp only at hS
    go_simp
    try with_reducible rfl
    try omega
  try simp only [Act.put, List.setIfInBounds_toArray, List.set_cons_zero, List.set_cons_succ]
  refine wpAnyH_take (i := 3) (oi := ⟨some 63, _, _, _, _, _⟩) (v := .int .u64 ((word : Nat) : Int)) rfl (by kernel_rfl) (by kernel_rfl) (by kernel_rfl) (fun _ _ _ h => h) (Or.inl ⟨by rfl, ?_⟩) hHeld ?_
  · intro ww hS
    try dsimp only at hS
    have X := (((hS)).K.cell (p := ⟨bb, oo + cl, none⟩) hbb).trans hcc
    go_simp
    try with_reducible rfl
    try omega
  try simp only [Act.put, List.setIfInBounds_toArray, List.set_cons_zero, List.set_cons_succ]
  refine wpAnyH_take (i := 4) (oi := ⟨some 64, _, _, _, _, _⟩) (v := .pointer (some ⟨gO, 13, none⟩)) rfl (by kernel_rfl) (by kernel_rfl) (by kernel_rfl) (fun _ _ _ h => h) (Or.inl ⟨by rfl, ?_⟩) hHeld ?_
  · intro ww hS
    try dsimp only at hS
    go_simp
    try with_reducible rfl
    try omega
  try simp only [Act.put, List.setIfInBounds_toArray, List.set_cons_zero, List.set_cons_succ]
  refine wpAnyH_take (i := 5) (oi := ⟨some 65, _, _, _, _, _⟩) (v := .int .u64 ((word : Nat) : Int)) rfl (by kernel_rfl) (by kernel_rfl) (by kernel_rfl) (fun _ _ _ h => h) (Or.inl ⟨by rfl, ?_⟩) hHeld ?_
  · intro ww hS
    try dsimp only at hS
    have O_13 := (hS).at_ 1 13 rfl (v := .int .u64 ((word : Nat) : Int)) rfl
    have O_z := (hS).lt 1 rfl
    go_simp
    try with_reducible rfl
    try omega
  try simp only [Act.put, List.setIfInBounds_toArray, List.set_cons_zero, List.set_cons_succ]
  refine wpAnyH_take (i := 6) (oi := ⟨some 66, _, _, _, _, _⟩) (v := .bool true) rfl (by kernel_rfl) (by kernel_rfl) (by kernel_rfl) (fun _ _ _ h => h) (Or.inl ⟨by rfl, ?_⟩) hHeld ?_
  · intro ww hS
    try dsimp only at hS
    go_simp
    try with_reducible rfl
    try omega
  try simp only [Act.put, List.setIfInBounds_toArray, List.set_cons_zero, List.set_cons_succ]
  refine wpAnyH_done (by kernel_rfl) ?_ _
  clear hHeld
  go_wp2_with fail
  have KS := L.K.size
  refine ((TSe _ (hU.below L.K)).out).mono ?_
  rintro e w4 ⟨gS, dS, rfl, U, hgS, K'⟩
  have Lb := L.lts
  replace L := L.over K'
  replace L := L.us_av (fun i b e b' o e' => by injection e' with e'; injection e' with e1; have := Lb i b e; omega) U
  clear Lb
  try dsimp only [lF, List.cons_append, List.nil_append] at L
  clear U
  have O_13 := L.at_ 1 13 rfl (v := .int .u64 ((word : Nat) : Int)) rfl
  have O_z := L.lt 1 rfl
  have O_f13 := L.fz 1 13 rfl
  go_upto_region 16 with fail
  clear O_13 O_z O_f13
  replace L := ((L.set 1 13 rfl (.int .u64 ((y : Nat) : Int))).is 1 (opv ⟨A0, n0, c0, A1, n1, c1, A2, n2, c2, A3, n3, c3⟩ ⟨kind, addr, err, aad, used, 5, shard, sought, (lf : Int), bit, y, true, 0, tries, item, stamp⟩) rfl)
  try dsimp only [nput] at L
  generalize (w4).setCell ⟨gO, 13, none⟩ (.int .u64 ((y : Nat) : Int)) = w5 at L ⊢
  have O_16 := L.at_ 1 16 rfl (v := .int .i64 0) rfl
  have O_14 := L.at_ 1 14 rfl (v := .bool true) rfl
  have O_13 := L.at_ 1 13 rfl (v := .int .u64 ((y : Nat) : Int)) rfl
  have O_z := L.lt 1 rfl
  go_upto_region 17 with fail
  clear O_16 O_14 O_13 O_z
  go_wp2_with (first | (refine wpList_load_row rfl 27 (.tmp 3) rfl gH rfl _ _ (0, 0) _ (L.bk_ 2 rfl) Tryz.underlying27 rfl cf_sz ?_) | (refine wpList_load_row rfl 40 (.tmp 5) rfl gO rfl _ _ (0, 0) _ (L.bk_ 1 rfl) Tryz.underlying40 rfl op_sz ?_))
  refine ((TG _).out).mono ?_
  rintro e w6 ⟨rfl, K'⟩
  replace L := L.over K'
  go_wp2_with (refine wpList_store_row rfl 40 (.tmp 7) (.tmp 88) rfl gR _ rfl rfl _ _ (L.bk_ 0 rfl) op_sz rfl (opv_one _ _) ?_)
  replace L := (L.row 0 rfl (opv ⟨A0, n0, c0, A1, n1, c1, A2, n2, c2, A3, n3, c3⟩ (ende (worded ⟨kind, addr, err, aad, used, 5, shard, sought, (lf : Int), bit, word, true, 0, tries, item, stamp⟩ y))))
  try dsimp only [nput] at L
  generalize (w6).setRow gR (opv ⟨A0, n0, c0, A1, n1, c1, A2, n2, c2, A3, n3, c3⟩ (ende (worded ⟨kind, addr, err, aad, used, 5, shard, sought, (lf : Int), bit, word, true, 0, tries, item, stamp⟩ y))) = w7 at L ⊢
  refine bodyPost_ret (v := .tuple #[.slice (some ⟨gS, 0, none⟩) m dS, .agg (opv ⟨A0, n0, c0, A1, n1, c1, A2, n2, c2, A3, n3, c3⟩ (ende (worded ⟨kind, addr, err, aad, used, 5, shard, sought, (lf : Int), bit, word, true, 0, tries, item, stamp⟩ y)))]) ?_ rfl ?_
  · exact results_tc (fn := Tryz.f39) Tryz.results39 _ _ gR _ _ (0, 0) _ rfl (L.bk_ 0 rfl) Tryz.underlying40 rfl op_sz
  exact ⟨_, _, rfl, L.us_ 0 rfl, (fun i hi _ b o e => by injection e with e; injection e with e1; omega), L.K⟩
set_option maxRecDepth 100000 in
set_option maxHeartbeats 2000000 in
theorem rmx_05yb (ha : a < 4294967296) (hM : Much a p M) (hU : US w B m d ys) (hm : m = lv M + tv M + 1) (hk : s.kind ≠ 4) (hlf : s.leaf = (lf : Int)) (hlv : lf < lv M) (hw : s.word < 18446744073709551616) (hfu : s.full = true) (hcl : cl = lv M + lf / 64) (hb : b = lf % 64) (hat : s.at_ = 0) (hph : s.phase = 5) (heq : gt ys cl = s.word) (hone : setb s.word b = 18446744073709551615) :
    Calls Tryz.prog 39 #[.agg #[.int .u32 (a : Int), .int .i64 p, .slice A n c, .int .i64 (ns : Int), .int .i64 wo, .int .i64 qu, .int .i64 tr], .slice B m d, .agg (opv h s)] w (RetRM (root_ (worded s (setb s.word b))) h m (ys.set cl (setb s.word b)) B w) := by
  have hm9 := hM.most
  have hl3 := lv_le hm9
  have ht3 := tv_le hm9
  have hm6 : m ≤ 65536 := by omega
  have hb2 : b < 64 := by omega
  have hcm : cl < m := by unfold tv tq at *; omega
  have TT := fun w => Lib.hid (rtop_any M lf hM.most (by omega) w)
  rw [← hcl, ← hb] at TT
  obtain ⟨bb, oo, hBe, hbb, hcc⟩ := hU.get hcm
  subst hBe
  have TL := fun w => Lib.hid (rclear_any s.word b hw hb2 w)
  have TSt := fun w => Lib.hid (rset_any s.word b hw hb2 w)
  have hy := setb_lt hw hb2
  obtain ⟨y, hy1⟩ : ∃ y, y = setb s.word b := ⟨_, rfl⟩
  rw [← hy1] at hy ⊢
  rw [← hy1] at hone
  replace TSt := fun w => Lib.hid ((show setb s.word b = y from hy1.symm) ▸ (TSt w).out)
  generalize clrb s.word b = z at TL
  clear hy1
  rw [heq] at hcc
  have f1 : ((s.word : Int) == (s.word : Int)) = true := by simp
  have TSe : ∀ w, US w (some ⟨bb, oo, none⟩) m d ys → Hid (Calls Tryz.prog 33 #[.slice (some ⟨bb, oo, none⟩) m d, .int .i64 (cl : Nat), .int .u64 (y : Nat)] w (RetSM m (ys.set cl y) w)) := fun w U => by have := crset_new U (cl : Int) hm6 hy; rw [stI_nat] at this; exact this
  clear heq
  have f3 : ((y : Int) != 18446744073709551615) = false := by simp; omega
  clear hone
  have hcm2 : (cl : Int) < (m : Int) := by omega
  clear hcl hb hm9 hl3 ht3 hm ha hk
  rcases s with ⟨kind, addr, err, aad, used, phase, shard, sought, leaf, bit, word, full, at_, tries, item, stamp⟩
  rcases h with ⟨A0, n0, c0, A1, n1, c1, A2, n2, c2, A3, n3, c3⟩
  try dsimp only at *
  subst hlf hat hph hfu
  go_enter Tryz.func39, Tryz.ntmps39
  go_upto_region 1 with (fail)
  have L := Loc.start w
  replace L := (((L).alloc #[.int .u32 (a : Int), .int .i64 p, .slice A n c, .int .i64 (ns : Int), .int .i64 wo, .int .i64 qu, .int .i64 tr] 27).alloc (opv ⟨A0, n0, c0, A1, n1, c1, A2, n2, c2, A3, n3, c3⟩ ⟨kind, addr, err, aad, used, 5, shard, sought, (lf : Int), bit, word, true, 0, tries, item, stamp⟩) 40).alloc #[.int .i64 0, .int .u32 0, .slice none 0 0, .int .i64 0, .int .u32 0, .bool false, .slice none 0 0, .slice none 0 0, .int .i64 0, .int .i64 0, .int .i64 0, .int .i64 0, .int .i64 0, .int .u64 0, .bool false, .slice none 0 0, .int .i64 0, .int .i64 0, .int .i64 0, .int .i64 0] 40
  try simp only [World.size_alloc] at L
  replace L := L.is 0 (opv hd0 sc0) rfl
  try dsimp only [nput] at L
  generalize (((w).alloc (.cells #[.int .u32 (a : Int), .int .i64 p, .slice A n c, .int .i64 (ns : Int), .int .i64 wo, .int .i64 qu, .int .i64 tr] 27)).alloc (.cells (opv ⟨A0, n0, c0, A1, n1, c1, A2, n2, c2, A3, n3, c3⟩ ⟨kind, addr, err, aad, used, 5, shard, sought, (lf : Int), bit, word, true, 0, tries, item, stamp⟩) 40)).alloc (.cells #[.int .i64 0, .int .u32 0, .slice none 0 0, .int .i64 0, .int .u32 0, .bool false, .slice none 0 0, .slice none 0 0, .int .i64 0, .int .i64 0, .int .i64 0, .int .i64 0, .int .i64 0, .int .u64 0, .bool false, .slice none 0 0, .int .i64 0, .int .i64 0, .int .i64 0, .int .i64 0] 40) = w1 at L ⊢
  generalize w.heap.size + 1 + 1 = gR at L ⊢
  generalize w.heap.size + 1 = gO at L ⊢
  generalize w.heap.size = gH at L ⊢
  have H_0 := L.at_ 2 0 rfl (v := .int .u32 (a : Int)) rfl
  have H_1 := L.at_ 2 1 rfl (v := .int .i64 p) rfl
  have H_z := L.lt 2 rfl
  go_wp2_with fail
  refine (rmany_yes hM).mono ?_
  rintro e w2 ⟨rfl, K'⟩
  clear H_0 H_1 H_z
  replace L := L.over K'
  have O_11 := L.at_ 1 11 rfl (v := .int .i64 (lf : Int)) rfl
  have O_z := L.lt 1 rfl
  go_wp2_with fail
  refine ((TT _).out).mono ?_
  rintro e w' ⟨rfl, rfl⟩
  clear O_11 O_z
  have O_16 := L.at_ 1 16 rfl (v := .int .i64 0) rfl
  have O_8 := L.at_ 1 8 rfl (v := .int .i64 5) rfl
  have O_13 := L.at_ 1 13 rfl (v := .int .u64 ((word : Nat) : Int)) rfl
  have O_z := L.lt 1 rfl
  go_wp2_with fail
  refine ((TL _).out).mono ?_
  rintro e w' ⟨rfl, rfl⟩
  clear O_16 O_8 O_13 O_z
  have O_14 := L.at_ 1 14 rfl (v := .bool true) rfl
  have O_13 := L.at_ 1 13 rfl (v := .int .u64 ((word : Nat) : Int)) rfl
  have O_z := L.lt 1 rfl
  go_wp2_with fail
  refine ((TSt _).out).mono ?_
  rintro e w' ⟨rfl, rfl⟩
  clear O_14 O_13 O_z
  go_upto_region 13 with (fail)
  replace L := L.drew
  refine wp_region_held_drew (S := fun w' => Loc w w' [(gR, 40, opv hd0 sc0), (gO, 40, opv ⟨A0, n0, c0, A1, n1, c1, A2, n2, c2, A3, n3, c3⟩ ⟨kind, addr, err, aad, used, 5, shard, sought, (lf : Int), bit, word, true, 0, tries, item, stamp⟩), (gH, 27, #[.int .u32 (a : Int), .int .i64 p, .slice A n c, .int .i64 (ns : Int), .int .i64 wo, .int .i64 qu, .int .i64 tr])] []) (by kernel_rfl) L (fun hHeld => ?_)
  generalize w2.drew = v3 at hHeld L ⊢
  refine wpAnyH_take (i := 0) (oi := ⟨some 60, _, _, _, _, _⟩) (v := .slice (some ⟨bb, oo, none⟩) m d) rfl (by kernel_rfl) (by kernel_rfl) (by kernel_rfl) (fun _ _ _ h => h) (Or.inl ⟨by rfl, ?_⟩) hHeld ?_
  · intro ww hS
    try dsimp only at hS
    go_simp
    try with_reducible rfl
    try omega
  try simp only [Act.put, List.setIfInBounds_toArray, List.set_cons_zero, List.set_cons_succ]
  refine wpAnyH_take (i := 1) (oi := ⟨some 61, _, _, _, _, _⟩) (v := .int .i64 (cl : Int)) rfl (by kernel_rfl) (by kernel_rfl) (by kernel_rfl) (fun _ _ _ h => h) (Or.inl ⟨by rfl, ?_⟩) hHeld ?_
  · intro ww hS
    try dsimp only at hS
    go_simp
    try with_reducible rfl
    try omega
  try simp only [Act.put, List.setIfInBounds_toArray, List.set_cons_zero, List.set_cons_succ]
  refine wpAnyH_take (i := 2) (oi := ⟨some 62, _, _, _, _, _⟩) (v := .pointer (some ⟨bb, oo + cl, none⟩)) rfl (by kernel_rfl) (by kernel_rfl) (by kernel_rfl) (fun _ _ _ h => h) (Or.inl ⟨by rfl, ?_⟩) hHeld ?_
  · intro ww hS
    try dsimp only at hS
    go_simp
    try with_reducible rfl
    try omega
  try simp only [Act.put, List.setIfInBounds_toArray, List.set_cons_zero, List.set_cons_succ]
  refine wpAnyH_take (i := 3) (oi := ⟨some 63, _, _, _, _, _⟩) (v := .int .u64 ((word : Nat) : Int)) rfl (by kernel_rfl) (by kernel_rfl) (by kernel_rfl) (fun _ _ _ h => h) (Or.inl ⟨by rfl, ?_⟩) hHeld ?_
  · intro ww hS
    try dsimp only at hS
    have X := (((hS)).K.cell (p := ⟨bb, oo + cl, none⟩) hbb).trans hcc
    go_simp
    try with_reducible rfl
    try omega
  try simp only [Act.put, List.setIfInBounds_toArray, List.set_cons_zero, List.set_cons_succ]
  refine wpAnyH_take (i := 4) (oi := ⟨some 64, _, _, _, _, _⟩) (v := .pointer (some ⟨gO, 13, none⟩)) rfl (by kernel_rfl) (by kernel_rfl) (by kernel_rfl) (fun _ _ _ h => h) (Or.inl ⟨by rfl, ?_⟩) hHeld ?_
  · intro ww hS
    try dsimp only at hS
    go_simp
    try with_reducible rfl
    try omega
  try simp only [Act.put, List.setIfInBounds_toArray, List.set_cons_zero, List.set_cons_succ]
  refine wpAnyH_take (i := 5) (oi := ⟨some 65, _, _, _, _, _⟩) (v := .int .u64 ((word : Nat) : Int)) rfl (by kernel_rfl) (by kernel_rfl) (by kernel_rfl) (fun _ _ _ h => h) (Or.inl ⟨by rfl, ?_⟩) hHeld ?_
  · intro ww hS
    try dsimp only at hS
    have O_13 := (hS).at_ 1 13 rfl (v := .int .u64 ((word : Nat) : Int)) rfl
    have O_z := (hS).lt 1 rfl
    go_simp
    try with_reducible rfl
    try omega
  try simp only [Act.put, List.setIfInBounds_toArray, List.set_cons_zero, List.set_cons_succ]
  refine wpAnyH_take (i := 6) (oi := ⟨some 66, _, _, _, _, _⟩) (v := .bool true) rfl (by kernel_rfl) (by kernel_rfl) (by kernel_rfl) (fun _ _ _ h => h) (Or.inl ⟨by rfl, ?_⟩) hHeld ?_
  · intro ww hS
    try dsimp only at hS
    go_simp
    try with_reducible rfl
    try omega
  try simp only [Act.put, List.setIfInBounds_toArray, List.set_cons_zero, List.set_cons_succ]
  refine wpAnyH_done (by kernel_rfl) ?_ _
  clear hHeld
  go_wp2_with fail
  have KS := L.K.size
  refine ((TSe _ (hU.below L.K)).out).mono ?_
  rintro e w4 ⟨gS, dS, rfl, U, hgS, K'⟩
  have Lb := L.lts
  replace L := L.over K'
  replace L := L.us_av (fun i b e b' o e' => by injection e' with e'; injection e' with e1; have := Lb i b e; omega) U
  clear Lb
  try dsimp only [lF, List.cons_append, List.nil_append] at L
  clear U
  have O_13 := L.at_ 1 13 rfl (v := .int .u64 ((word : Nat) : Int)) rfl
  have O_z := L.lt 1 rfl
  have O_f13 := L.fz 1 13 rfl
  go_upto_region 16 with fail
  clear O_13 O_z O_f13
  replace L := ((L.set 1 13 rfl (.int .u64 ((y : Nat) : Int))).is 1 (opv ⟨A0, n0, c0, A1, n1, c1, A2, n2, c2, A3, n3, c3⟩ ⟨kind, addr, err, aad, used, 5, shard, sought, (lf : Int), bit, y, true, 0, tries, item, stamp⟩) rfl)
  try dsimp only [nput] at L
  generalize (w4).setCell ⟨gO, 13, none⟩ (.int .u64 ((y : Nat) : Int)) = w5 at L ⊢
  have O_16 := L.at_ 1 16 rfl (v := .int .i64 0) rfl
  have O_14 := L.at_ 1 14 rfl (v := .bool true) rfl
  have O_13 := L.at_ 1 13 rfl (v := .int .u64 ((y : Nat) : Int)) rfl
  have O_z := L.lt 1 rfl
  go_upto_region 18 with fail
  clear O_16 O_14 O_13 O_z
  have O_16 := L.at_ 1 16 rfl (v := .int .i64 0) rfl
  have O_z := L.lt 1 rfl
  have O_f16 := L.fz 1 16 rfl
  go_upto_region 19 with fail
  clear O_16 O_z O_f16
  replace L := ((L.set 1 16 rfl (.int .i64 1)).is 1 (opv ⟨A0, n0, c0, A1, n1, c1, A2, n2, c2, A3, n3, c3⟩ ⟨kind, addr, err, aad, used, 5, shard, sought, (lf : Int), bit, y, true, 1, tries, item, stamp⟩) rfl)
  try dsimp only [nput] at L
  generalize (w5).setCell ⟨gO, 16, none⟩ (.int .i64 1) = w6 at L ⊢
  have O_8 := L.at_ 1 8 rfl (v := .int .i64 5) rfl
  have O_z := L.lt 1 rfl
  have O_f8 := L.fz 1 8 rfl
  go_upto_region 20 with fail
  clear O_8 O_z O_f8
  replace L := ((L.set 1 8 rfl (.int .i64 4)).is 1 (opv ⟨A0, n0, c0, A1, n1, c1, A2, n2, c2, A3, n3, c3⟩ ⟨kind, addr, err, aad, used, 4, shard, sought, (lf : Int), bit, y, true, 1, tries, item, stamp⟩) rfl)
  try dsimp only [nput] at L
  generalize (w6).setCell ⟨gO, 8, none⟩ (.int .i64 4) = w7 at L ⊢
  replace L := L.drew
  refine wp_region_held_drew (S := fun w' => ∃ v_R : Array Value, v_R.size = 20 ∧ Loc w w' [(gR, 40, v_R), (gO, 40, opv ⟨A0, n0, c0, A1, n1, c1, A2, n2, c2, A3, n3, c3⟩ ⟨kind, addr, err, aad, used, 4, shard, sought, (lf : Int), bit, y, true, 1, tries, item, stamp⟩), (gH, 27, #[.int .u32 (a : Int), .int .i64 p, .slice A n c, .int .i64 (ns : Int), .int .i64 wo, .int .i64 qu, .int .i64 tr])] [uF (some ⟨gS, 0, none⟩) m dS (ys.set cl y)]) (by kernel_rfl) (⟨_, rfl, L⟩) (fun hHeld => ?_)
  generalize w7.drew = v8 at hHeld L ⊢
  refine wpAnyH_take (i := 0) (oi := ⟨some 91, _, _, _, _, _⟩) (v := .slice (some ⟨gS, 0, none⟩) m dS) rfl (by kernel_rfl) (by kernel_rfl) (by kernel_rfl) (fun _ _ _ h => h) (Or.inl ⟨by rfl, ?_⟩) hHeld ?_
  · intro ww hS
    try dsimp only at hS
    go_simp
    try with_reducible rfl
    try omega
  try simp only [Act.put, List.setIfInBounds_toArray, List.set_cons_zero, List.set_cons_succ]
  refine wpAnyH_take (i := 1) (oi := ⟨some 92, _, _, _, _, _⟩) (v := .agg (opv ⟨A0, n0, c0, A1, n1, c1, A2, n2, c2, A3, n3, c3⟩ ⟨kind, addr, err, aad, used, 4, shard, sought, (lf : Int), bit, y, true, 1, tries, item, stamp⟩)) rfl (by kernel_rfl) (by kernel_rfl) (by kernel_rfl) (fun _ _ _ h => h) (yieldsIf_load_row (by rfl) 40 (.tmp 5) rfl gO rfl 40 _ (0, 0) _ (fun _ hS => ((hS.choose_spec.2).bk_ 1 rfl)) Tryz.underlying40 rfl op_sz) hHeld ?_
  try simp only [Act.put, List.setIfInBounds_toArray, List.set_cons_zero, List.set_cons_succ]
  refine wpAnyH_take (i := 2) (oi := ⟨some 6, _, _, _, _, _⟩) (v := .slice (some ⟨gS, 0, none⟩) m dS) rfl (by kernel_rfl) (by kernel_rfl) (by kernel_rfl) (fun _ _ _ h => h) (Or.inl ⟨by rfl, ?_⟩) hHeld ?_
  · intro ww hS
    try dsimp only at hS
    go_simp
    try with_reducible rfl
    try omega
  try simp only [Act.put, List.setIfInBounds_toArray, List.set_cons_zero, List.set_cons_succ]
  refine wpAnyH_ready (rs := [3]) (by kernel_rfl) (by simp) ?_
  refine AllReadyH.cons (o := ⟨none, _, _, _, _, _⟩) rfl (fun K0 hK => ?_) AllReadyH.nil
  rw [if_pos (by rfl)]
  refine wp_store_row 40 (.tmp 7) (.tmp 92) rfl gR _ rfl rfl _ _ (L.bk_ 0 rfl) op_sz rfl (opv_one _ _) ?_
  replace L := L.row 0 rfl (opv ⟨A0, n0, c0, A1, n1, c1, A2, n2, c2, A3, n3, c3⟩ ⟨kind, addr, err, aad, used, 4, shard, sought, (lf : Int), bit, y, true, 1, tries, item, stamp⟩)
  try dsimp only [nput] at L
  refine hK.out _ _ ⟨_, rfl, L⟩ (fun hHeld' => ?_)
  clear hHeld hK K0
  have hHeld := hHeld'
  clear hHeld'
  generalize v8.setRow gR (opv ⟨A0, n0, c0, A1, n1, c1, A2, n2, c2, A3, n3, c3⟩ ⟨kind, addr, err, aad, used, 4, shard, sought, (lf : Int), bit, y, true, 1, tries, item, stamp⟩) = v9 at hHeld L ⊢
  try simp only [Act.put]
  refine wpAnyH_done (by kernel_rfl) ?_ _
  clear hHeld
  go_wp2
  refine bodyPost_ret (v := .tuple #[.slice (some ⟨gS, 0, none⟩) m dS, .agg (opv ⟨A0, n0, c0, A1, n1, c1, A2, n2, c2, A3, n3, c3⟩ ⟨kind, addr, err, aad, used, 4, shard, sought, (lf : Int), bit, y, true, 1, tries, item, stamp⟩)]) ?_ rfl ?_
  · exact results_tc (fn := Tryz.f39) Tryz.results39 _ _ gR _ _ (0, 0) _ rfl (L.bk_ 0 rfl) Tryz.underlying40 rfl op_sz
  exact ⟨_, _, rfl, L.us_ 0 rfl, (fun i hi _ b o e => by injection e with e; injection e with e1; omega), L.K⟩
set_option maxRecDepth 100000 in
set_option maxHeartbeats 2000000 in
theorem rmx_05na (ha : a < 4294967296) (hM : Much a p M) (hU : US w B m d ys) (hm : m = lv M + tv M + 1) (hk : s.kind ≠ 4) (hlf : s.leaf = (lf : Int)) (hlv : lf < lv M) (hw : s.word < 18446744073709551616) (hfu : s.full = true) (hcl : cl = lv M + lf / 64) (hb : b = lf % 64) (hat : s.at_ = 0) (hph : s.phase = 5) (heq : gt ys cl ≠ s.word) (hone : setb s.word b ≠ 18446744073709551615) :
    Calls Tryz.prog 39 #[.agg #[.int .u32 (a : Int), .int .i64 p, .slice A n c, .int .i64 (ns : Int), .int .i64 wo, .int .i64 qu, .int .i64 tr], .slice B m d, .agg (opv h s)] w (RetRM (ende (worded s (setb s.word b))) h m ys B w) := by
  have hm9 := hM.most
  have hl3 := lv_le hm9
  have ht3 := tv_le hm9
  have hm6 : m ≤ 65536 := by omega
  have hb2 : b < 64 := by omega
  have hcm : cl < m := by unfold tv tq at *; omega
  have TT := fun w => Lib.hid (rtop_any M lf hM.most (by omega) w)
  rw [← hcl, ← hb] at TT
  obtain ⟨bb, oo, hBe, hbb, hcc⟩ := hU.get hcm
  subst hBe
  have TL := fun w => Lib.hid (rclear_any s.word b hw hb2 w)
  have TSt := fun w => Lib.hid (rset_any s.word b hw hb2 w)
  have hy := setb_lt hw hb2
  obtain ⟨y, hy1⟩ : ∃ y, y = setb s.word b := ⟨_, rfl⟩
  rw [← hy1] at hy ⊢
  rw [← hy1] at hone
  replace TSt := fun w => Lib.hid ((show setb s.word b = y from hy1.symm) ▸ (TSt w).out)
  generalize clrb s.word b = z at TL
  clear hy1
  obtain ⟨x, hx⟩ : ∃ x, x = gt ys cl := ⟨_, rfl⟩
  rw [← hx] at hcc heq
  have f1 : ((x : Int) == (s.word : Int)) = false := by simp; omega
  clear hx
  clear heq
  have f3 : ((y : Int) != 18446744073709551615) = true := by simp; omega
  clear hone
  have TG := fun w => Lib.hid (rgoes_end0 (w := w) (h := h) (a := a) (p := p) (sh := (ns : Int)) (wo := wo) (qu := qu) (tr := tr) (A := A) (n := n) (c := c) (s := worded s y) (show (worded s _).kind ≠ 4 from hk))
  have hcm2 : (cl : Int) < (m : Int) := by omega
  clear hcl hb hm9 hl3 ht3 hm ha hk
  rcases s with ⟨kind, addr, err, aad, used, phase, shard, sought, leaf, bit, word, full, at_, tries, item, stamp⟩
  rcases h with ⟨A0, n0, c0, A1, n1, c1, A2, n2, c2, A3, n3, c3⟩
  try dsimp only at *
  subst hlf hat hph hfu
  go_enter Tryz.func39, Tryz.ntmps39
  go_upto_region 1 with (fail)
  have L := Loc.start w
  replace L := (((L).alloc #[.int .u32 (a : Int), .int .i64 p, .slice A n c, .int .i64 (ns : Int), .int .i64 wo, .int .i64 qu, .int .i64 tr] 27).alloc (opv ⟨A0, n0, c0, A1, n1, c1, A2, n2, c2, A3, n3, c3⟩ ⟨kind, addr, err, aad, used, 5, shard, sought, (lf : Int), bit, word, true, 0, tries, item, stamp⟩) 40).alloc #[.int .i64 0, .int .u32 0, .slice none 0 0, .int .i64 0, .int .u32 0, .bool false, .slice none 0 0, .slice none 0 0, .int .i64 0, .int .i64 0, .int .i64 0, .int .i64 0, .int .i64 0, .int .u64 0, .bool false, .slice none 0 0, .int .i64 0, .int .i64 0, .int .i64 0, .int .i64 0] 40
  try simp only [World.size_alloc] at L
  replace L := L.is 0 (opv hd0 sc0) rfl
  try dsimp only [nput] at L
  generalize (((w).alloc (.cells #[.int .u32 (a : Int), .int .i64 p, .slice A n c, .int .i64 (ns : Int), .int .i64 wo, .int .i64 qu, .int .i64 tr] 27)).alloc (.cells (opv ⟨A0, n0, c0, A1, n1, c1, A2, n2, c2, A3, n3, c3⟩ ⟨kind, addr, err, aad, used, 5, shard, sought, (lf : Int), bit, word, true, 0, tries, item, stamp⟩) 40)).alloc (.cells #[.int .i64 0, .int .u32 0, .slice none 0 0, .int .i64 0, .int .u32 0, .bool false, .slice none 0 0, .slice none 0 0, .int .i64 0, .int .i64 0, .int .i64 0, .int .i64 0, .int .i64 0, .int .u64 0, .bool false, .slice none 0 0, .int .i64 0, .int .i64 0, .int .i64 0, .int .i64 0] 40) = w1 at L ⊢
  generalize w.heap.size + 1 + 1 = gR at L ⊢
  generalize w.heap.size + 1 = gO at L ⊢
  generalize w.heap.size = gH at L ⊢
  have H_0 := L.at_ 2 0 rfl (v := .int .u32 (a : Int)) rfl
  have H_1 := L.at_ 2 1 rfl (v := .int .i64 p) rfl
  have H_z := L.lt 2 rfl
  go_wp2_with fail
  refine (rmany_yes hM).mono ?_
  rintro e w2 ⟨rfl, K'⟩
  clear H_0 H_1 H_z
  replace L := L.over K'
  have O_11 := L.at_ 1 11 rfl (v := .int .i64 (lf : Int)) rfl
  have O_z := L.lt 1 rfl
  go_wp2_with fail
  refine ((TT _).out).mono ?_
  rintro e w' ⟨rfl, rfl⟩
  clear O_11 O_z
  have O_16 := L.at_ 1 16 rfl (v := .int .i64 0) rfl
  have O_8 := L.at_ 1 8 rfl (v := .int .i64 5) rfl
  have O_13 := L.at_ 1 13 rfl (v := .int .u64 ((word : Nat) : Int)) rfl
  have O_z := L.lt 1 rfl
  go_wp2_with fail
  refine ((TL _).out).mono ?_
  rintro e w' ⟨rfl, rfl⟩
  clear O_16 O_8 O_13 O_z
  have O_14 := L.at_ 1 14 rfl (v := .bool true) rfl
  have O_13 := L.at_ 1 13 rfl (v := .int .u64 ((word : Nat) : Int)) rfl
  have O_z := L.lt 1 rfl
  go_wp2_with fail
  refine ((TSt _).out).mono ?_
  rintro e w' ⟨rfl, rfl⟩
  clear O_14 O_13 O_z
  go_upto_region 13 with (fail)
  replace L := L.drew
  refine wp_region_held_drew (S := fun w' => Loc w w' [(gR, 40, opv hd0 sc0), (gO, 40, opv ⟨A0, n0, c0, A1, n1, c1, A2, n2, c2, A3, n3, c3⟩ ⟨kind, addr, err, aad, used, 5, shard, sought, (lf : Int), bit, word, true, 0, tries, item, stamp⟩), (gH, 27, #[.int .u32 (a : Int), .int .i64 p, .slice A n c, .int .i64 (ns : Int), .int .i64 wo, .int .i64 qu, .int .i64 tr])] []) (by kernel_rfl) L (fun hHeld => ?_)
  generalize w2.drew = v3 at hHeld L ⊢
  refine wpAnyH_take (i := 0) (oi := ⟨some 60, _, _, _, _, _⟩) (v := .slice (some ⟨bb, oo, none⟩) m d) rfl (by kernel_rfl) (by kernel_rfl) (by kernel_rfl) (fun _ _ _ h => h) (Or.inl ⟨by rfl, ?_⟩) hHeld ?_
  · intro ww hS
    try dsimp only at hS
    go_simp
    try with_reducible rfl
    try omega
  try simp only [Act.put, List.setIfInBounds_toArray, List.set_cons_zero, List.set_cons_succ]
  refine wpAnyH_take (i := 1) (oi := ⟨some 61, _, _, _, _, _⟩) (v := .int .i64 (cl : Int)) rfl (by kernel_rfl) (by kernel_rfl) (by kernel_rfl) (fun _ _ _ h => h) (Or.inl ⟨by rfl, ?_⟩) hHeld ?_
  · intro ww hS
    try dsimp only at hS
    go_simp
    try with_reducible rfl
    try omega
  try simp only [Act.put, List.setIfInBounds_toArray, List.set_cons_zero, List.set_cons_succ]
  refine wpAnyH_take (i := 2) (oi := ⟨some 62, _, _, _, _, _⟩) (v := .pointer (some ⟨bb, oo + cl, none⟩)) rfl (by kernel_rfl) (by kernel_rfl) (by kernel_rfl) (fun _ _ _ h => h) (Or.inl ⟨by rfl, ?_⟩) hHeld ?_
  · intro ww hS
    try dsimp only at hS
    go_simp
    try with_reducible rfl
    try omega
  try simp only [Act.put, List.setIfInBounds_toArray, List.set_cons_zero, List.set_cons_succ]
  refine wpAnyH_take (i := 3) (oi := ⟨some 63, _, _, _, _, _⟩) (v := .int .u64 ((x : Nat) : Int)) rfl (by kernel_rfl) (by kernel_rfl) (by kernel_rfl) (fun _ _ _ h => h) (Or.inl ⟨by rfl, ?_⟩) hHeld ?_
  · intro ww hS
    try dsimp only at hS
    have X := (((hS)).K.cell (p := ⟨bb, oo + cl, none⟩) hbb).trans hcc
    go_simp
    try with_reducible rfl
    try omega
  try simp only [Act.put, List.setIfInBounds_toArray, List.set_cons_zero, List.set_cons_succ]
  refine wpAnyH_take (i := 4) (oi := ⟨some 64, _, _, _, _, _⟩) (v := .pointer (some ⟨gO, 13, none⟩)) rfl (by kernel_rfl) (by kernel_rfl) (by kernel_rfl) (fun _ _ _ h => h) (Or.inl ⟨by rfl, ?_⟩) hHeld ?_
  · intro ww hS
    try dsimp only at hS
    go_simp
    try with_reducible rfl
    try omega
  try simp only [Act.put, List.setIfInBounds_toArray, List.set_cons_zero, List.set_cons_succ]
  refine wpAnyH_take (i := 5) (oi := ⟨some 65, _, _, _, _, _⟩) (v := .int .u64 ((word : Nat) : Int)) rfl (by kernel_rfl) (by kernel_rfl) (by kernel_rfl) (fun _ _ _ h => h) (Or.inl ⟨by rfl, ?_⟩) hHeld ?_
  · intro ww hS
    try dsimp only at hS
    have O_13 := (hS).at_ 1 13 rfl (v := .int .u64 ((word : Nat) : Int)) rfl
    have O_z := (hS).lt 1 rfl
    go_simp
    try with_reducible rfl
    try omega
  try simp only [Act.put, List.setIfInBounds_toArray, List.set_cons_zero, List.set_cons_succ]
  refine wpAnyH_take (i := 6) (oi := ⟨some 66, _, _, _, _, _⟩) (v := .bool false) rfl (by kernel_rfl) (by kernel_rfl) (by kernel_rfl) (fun _ _ _ h => h) (Or.inl ⟨by rfl, ?_⟩) hHeld ?_
  · intro ww hS
    try dsimp only at hS
    go_simp
    try with_reducible rfl
    try omega
  try simp only [Act.put, List.setIfInBounds_toArray, List.set_cons_zero, List.set_cons_succ]
  refine wpAnyH_done (by kernel_rfl) ?_ _
  clear hHeld
  have O_13 := L.at_ 1 13 rfl (v := .int .u64 ((word : Nat) : Int)) rfl
  have O_z := L.lt 1 rfl
  have O_f13 := L.fz 1 13 rfl
  go_upto_region 16 with fail
  clear O_13 O_z O_f13
  replace L := ((L.set 1 13 rfl (.int .u64 ((y : Nat) : Int))).is 1 (opv ⟨A0, n0, c0, A1, n1, c1, A2, n2, c2, A3, n3, c3⟩ ⟨kind, addr, err, aad, used, 5, shard, sought, (lf : Int), bit, y, true, 0, tries, item, stamp⟩) rfl)
  try dsimp only [nput] at L
  generalize (v3).setCell ⟨gO, 13, none⟩ (.int .u64 ((y : Nat) : Int)) = w4 at L ⊢
  have O_16 := L.at_ 1 16 rfl (v := .int .i64 0) rfl
  have O_14 := L.at_ 1 14 rfl (v := .bool true) rfl
  have O_13 := L.at_ 1 13 rfl (v := .int .u64 ((y : Nat) : Int)) rfl
  have O_z := L.lt 1 rfl
  go_upto_region 17 with fail
  clear O_16 O_14 O_13 O_z
  go_wp2_with (first | (refine wpList_load_row rfl 27 (.tmp 3) rfl gH rfl _ _ (0, 0) _ (L.bk_ 2 rfl) Tryz.underlying27 rfl cf_sz ?_) | (refine wpList_load_row rfl 40 (.tmp 5) rfl gO rfl _ _ (0, 0) _ (L.bk_ 1 rfl) Tryz.underlying40 rfl op_sz ?_))
  refine ((TG _).out).mono ?_
  rintro e w5 ⟨rfl, K'⟩
  replace L := L.over K'
  go_wp2_with (refine wpList_store_row rfl 40 (.tmp 7) (.tmp 88) rfl gR _ rfl rfl _ _ (L.bk_ 0 rfl) op_sz rfl (opv_one _ _) ?_)
  replace L := (L.row 0 rfl (opv ⟨A0, n0, c0, A1, n1, c1, A2, n2, c2, A3, n3, c3⟩ (ende (worded ⟨kind, addr, err, aad, used, 5, shard, sought, (lf : Int), bit, word, true, 0, tries, item, stamp⟩ y))))
  try dsimp only [nput] at L
  generalize (w5).setRow gR (opv ⟨A0, n0, c0, A1, n1, c1, A2, n2, c2, A3, n3, c3⟩ (ende (worded ⟨kind, addr, err, aad, used, 5, shard, sought, (lf : Int), bit, word, true, 0, tries, item, stamp⟩ y))) = w6 at L ⊢
  refine bodyPost_ret (v := .tuple #[.slice (some ⟨bb, oo, none⟩) m d, .agg (opv ⟨A0, n0, c0, A1, n1, c1, A2, n2, c2, A3, n3, c3⟩ (ende (worded ⟨kind, addr, err, aad, used, 5, shard, sought, (lf : Int), bit, word, true, 0, tries, item, stamp⟩ y)))]) ?_ rfl ?_
  · exact results_tc (fn := Tryz.f39) Tryz.results39 _ _ gR _ _ (0, 0) _ rfl (L.bk_ 0 rfl) Tryz.underlying40 rfl op_sz
  exact ⟨_, _, rfl, hU.below L.K, fun k _ h => h, L.K⟩
set_option maxRecDepth 100000 in
set_option maxHeartbeats 2000000 in
theorem rmx_05nb (ha : a < 4294967296) (hM : Much a p M) (hU : US w B m d ys) (hm : m = lv M + tv M + 1) (hk : s.kind ≠ 4) (hlf : s.leaf = (lf : Int)) (hlv : lf < lv M) (hw : s.word < 18446744073709551616) (hfu : s.full = true) (hcl : cl = lv M + lf / 64) (hb : b = lf % 64) (hat : s.at_ = 0) (hph : s.phase = 5) (heq : gt ys cl ≠ s.word) (hone : setb s.word b = 18446744073709551615) :
    Calls Tryz.prog 39 #[.agg #[.int .u32 (a : Int), .int .i64 p, .slice A n c, .int .i64 (ns : Int), .int .i64 wo, .int .i64 qu, .int .i64 tr], .slice B m d, .agg (opv h s)] w (RetRM (root_ (worded s (setb s.word b))) h m ys B w) := by
  have hm9 := hM.most
  have hl3 := lv_le hm9
  have ht3 := tv_le hm9
  have hm6 : m ≤ 65536 := by omega
  have hb2 : b < 64 := by omega
  have hcm : cl < m := by unfold tv tq at *; omega
  have TT := fun w => Lib.hid (rtop_any M lf hM.most (by omega) w)
  rw [← hcl, ← hb] at TT
  obtain ⟨bb, oo, hBe, hbb, hcc⟩ := hU.get hcm
  subst hBe
  have TL := fun w => Lib.hid (rclear_any s.word b hw hb2 w)
  have TSt := fun w => Lib.hid (rset_any s.word b hw hb2 w)
  have hy := setb_lt hw hb2
  obtain ⟨y, hy1⟩ : ∃ y, y = setb s.word b := ⟨_, rfl⟩
  rw [← hy1] at hy ⊢
  rw [← hy1] at hone
  replace TSt := fun w => Lib.hid ((show setb s.word b = y from hy1.symm) ▸ (TSt w).out)
  generalize clrb s.word b = z at TL
  clear hy1
  obtain ⟨x, hx⟩ : ∃ x, x = gt ys cl := ⟨_, rfl⟩
  rw [← hx] at hcc heq
  have f1 : ((x : Int) == (s.word : Int)) = false := by simp; omega
  clear hx
  clear heq
  have f3 : ((y : Int) != 18446744073709551615) = false := by simp; omega
  clear hone
  have hcm2 : (cl : Int) < (m : Int) := by omega
  clear hcl hb hm9 hl3 ht3 hm ha hk
  rcases s with ⟨kind, addr, err, aad, used, phase, shard, sought, leaf, bit, word, full, at_, tries, item, stamp⟩
  rcases h with ⟨A0, n0, c0, A1, n1, c1, A2, n2, c2, A3, n3, c3⟩
  try dsimp only at *
  subst hlf hat hph hfu
  go_enter Tryz.func39, Tryz.ntmps39
  go_upto_region 1 with (fail)
  have L := Loc.start w
  replace L := (((L).alloc #[.int .u32 (a : Int), .int .i64 p, .slice A n c, .int .i64 (ns : Int), .int .i64 wo, .int .i64 qu, .int .i64 tr] 27).alloc (opv ⟨A0, n0, c0, A1, n1, c1, A2, n2, c2, A3, n3, c3⟩ ⟨kind, addr, err, aad, used, 5, shard, sought, (lf : Int), bit, word, true, 0, tries, item, stamp⟩) 40).alloc #[.int .i64 0, .int .u32 0, .slice none 0 0, .int .i64 0, .int .u32 0, .bool false, .slice none 0 0, .slice none 0 0, .int .i64 0, .int .i64 0, .int .i64 0, .int .i64 0, .int .i64 0, .int .u64 0, .bool false, .slice none 0 0, .int .i64 0, .int .i64 0, .int .i64 0, .int .i64 0] 40
  try simp only [World.size_alloc] at L
  replace L := L.is 0 (opv hd0 sc0) rfl
  try dsimp only [nput] at L
  generalize (((w).alloc (.cells #[.int .u32 (a : Int), .int .i64 p, .slice A n c, .int .i64 (ns : Int), .int .i64 wo, .int .i64 qu, .int .i64 tr] 27)).alloc (.cells (opv ⟨A0, n0, c0, A1, n1, c1, A2, n2, c2, A3, n3, c3⟩ ⟨kind, addr, err, aad, used, 5, shard, sought, (lf : Int), bit, word, true, 0, tries, item, stamp⟩) 40)).alloc (.cells #[.int .i64 0, .int .u32 0, .slice none 0 0, .int .i64 0, .int .u32 0, .bool false, .slice none 0 0, .slice none 0 0, .int .i64 0, .int .i64 0, .int .i64 0, .int .i64 0, .int .i64 0, .int .u64 0, .bool false, .slice none 0 0, .int .i64 0, .int .i64 0, .int .i64 0, .int .i64 0] 40) = w1 at L ⊢
  generalize w.heap.size + 1 + 1 = gR at L ⊢
  generalize w.heap.size + 1 = gO at L ⊢
  generalize w.heap.size = gH at L ⊢
  have H_0 := L.at_ 2 0 rfl (v := .int .u32 (a : Int)) rfl
  have H_1 := L.at_ 2 1 rfl (v := .int .i64 p) rfl
  have H_z := L.lt 2 rfl
  go_wp2_with fail
  refine (rmany_yes hM).mono ?_
  rintro e w2 ⟨rfl, K'⟩
  clear H_0 H_1 H_z
  replace L := L.over K'
  have O_11 := L.at_ 1 11 rfl (v := .int .i64 (lf : Int)) rfl
  have O_z := L.lt 1 rfl
  go_wp2_with fail
  refine ((TT _).out).mono ?_
  rintro e w' ⟨rfl, rfl⟩
  clear O_11 O_z
  have O_16 := L.at_ 1 16 rfl (v := .int .i64 0) rfl
  have O_8 := L.at_ 1 8 rfl (v := .int .i64 5) rfl
  have O_13 := L.at_ 1 13 rfl (v := .int .u64 ((word : Nat) : Int)) rfl
  have O_z := L.lt 1 rfl
  go_wp2_with fail
  refine ((TL _).out).mono ?_
  rintro e w' ⟨rfl, rfl⟩
  clear O_16 O_8 O_13 O_z
  have O_14 := L.at_ 1 14 rfl (v := .bool true) rfl
  have O_13 := L.at_ 1 13 rfl (v := .int .u64 ((word : Nat) : Int)) rfl
  have O_z := L.lt 1 rfl
  go_wp2_with fail
  refine ((TSt _).out).mono ?_
  rintro e w' ⟨rfl, rfl⟩
  clear O_14 O_13 O_z
  go_upto_region 13 with (fail)
  replace L := L.drew
  refine wp_region_held_drew (S := fun w' => Loc w w' [(gR, 40, opv hd0 sc0), (gO, 40, opv ⟨A0, n0, c0, A1, n1, c1, A2, n2, c2, A3, n3, c3⟩ ⟨kind, addr, err, aad, used, 5, shard, sought, (lf : Int), bit, word, true, 0, tries, item, stamp⟩), (gH, 27, #[.int .u32 (a : Int), .int .i64 p, .slice A n c, .int .i64 (ns : Int), .int .i64 wo, .int .i64 qu, .int .i64 tr])] []) (by kernel_rfl) L (fun hHeld => ?_)
  generalize w2.drew = v3 at hHeld L ⊢
  refine wpAnyH_take (i := 0) (oi := ⟨some 60, _, _, _, _, _⟩) (v := .slice (some ⟨bb, oo, none⟩) m d) rfl (by kernel_rfl) (by kernel_rfl) (by kernel_rfl) (fun _ _ _ h => h) (Or.inl ⟨by rfl, ?_⟩) hHeld ?_
  · intro ww hS
    try dsimp only at hS
    go_simp
    try with_reducible rfl
    try omega
  try simp only [Act.put, List.setIfInBounds_toArray, List.set_cons_zero, List.set_cons_succ]
  refine wpAnyH_take (i := 1) (oi := ⟨some 61, _, _, _, _, _⟩) (v := .int .i64 (cl : Int)) rfl (by kernel_rfl) (by kernel_rfl) (by kernel_rfl) (fun _ _ _ h => h) (Or.inl ⟨by rfl, ?_⟩) hHeld ?_
  · intro ww hS
    try dsimp only at hS
    go_simp
    try with_reducible rfl
    try omega
  try simp only [Act.put, List.setIfInBounds_toArray, List.set_cons_zero, List.set_cons_succ]
  refine wpAnyH_take (i := 2) (oi := ⟨some 62, _, _, _, _, _⟩) (v := .pointer (some ⟨bb, oo + cl, none⟩)) rfl (by kernel_rfl) (by kernel_rfl) (by kernel_rfl) (fun _ _ _ h => h) (Or.inl ⟨by rfl, ?_⟩) hHeld ?_
  · intro ww hS
    try dsimp only at hS
    go_simp
    try with_reducible rfl
    try omega
  try simp only [Act.put, List.setIfInBounds_toArray, List.set_cons_zero, List.set_cons_succ]
  refine wpAnyH_take (i := 3) (oi := ⟨some 63, _, _, _, _, _⟩) (v := .int .u64 ((x : Nat) : Int)) rfl (by kernel_rfl) (by kernel_rfl) (by kernel_rfl) (fun _ _ _ h => h) (Or.inl ⟨by rfl, ?_⟩) hHeld ?_
  · intro ww hS
    try dsimp only at hS
    have X := (((hS)).K.cell (p := ⟨bb, oo + cl, none⟩) hbb).trans hcc
    go_simp
    try with_reducible rfl
    try omega
  try simp only [Act.put, List.setIfInBounds_toArray, List.set_cons_zero, List.set_cons_succ]
  refine wpAnyH_take (i := 4) (oi := ⟨some 64, _, _, _, _, _⟩) (v := .pointer (some ⟨gO, 13, none⟩)) rfl (by kernel_rfl) (by kernel_rfl) (by kernel_rfl) (fun _ _ _ h => h) (Or.inl ⟨by rfl, ?_⟩) hHeld ?_
  · intro ww hS
    try dsimp only at hS
    go_simp
    try with_reducible rfl
    try omega
  try simp only [Act.put, List.setIfInBounds_toArray, List.set_cons_zero, List.set_cons_succ]
  refine wpAnyH_take (i := 5) (oi := ⟨some 65, _, _, _, _, _⟩) (v := .int .u64 ((word : Nat) : Int)) rfl (by kernel_rfl) (by kernel_rfl) (by kernel_rfl) (fun _ _ _ h => h) (Or.inl ⟨by rfl, ?_⟩) hHeld ?_
  · intro ww hS
    try dsimp only at hS
    have O_13 := (hS).at_ 1 13 rfl (v := .int .u64 ((word : Nat) : Int)) rfl
    have O_z := (hS).lt 1 rfl
    go_simp
    try with_reducible rfl
    try omega
  try simp only [Act.put, List.setIfInBounds_toArray, List.set_cons_zero, List.set_cons_succ]
  refine wpAnyH_take (i := 6) (oi := ⟨some 66, _, _, _, _, _⟩) (v := .bool false) rfl (by kernel_rfl) (by kernel_rfl) (by kernel_rfl) (fun _ _ _ h => h) (Or.inl ⟨by rfl, ?_⟩) hHeld ?_
  · intro ww hS
    try dsimp only at hS
    go_simp
    try with_reducible rfl
    try omega
  try simp only [Act.put, List.setIfInBounds_toArray, List.set_cons_zero, List.set_cons_succ]
  refine wpAnyH_done (by kernel_rfl) ?_ _
  clear hHeld
  have O_13 := L.at_ 1 13 rfl (v := .int .u64 ((word : Nat) : Int)) rfl
  have O_z := L.lt 1 rfl
  have O_f13 := L.fz 1 13 rfl
  go_upto_region 16 with fail
  clear O_13 O_z O_f13
  replace L := ((L.set 1 13 rfl (.int .u64 ((y : Nat) : Int))).is 1 (opv ⟨A0, n0, c0, A1, n1, c1, A2, n2, c2, A3, n3, c3⟩ ⟨kind, addr, err, aad, used, 5, shard, sought, (lf : Int), bit, y, true, 0, tries, item, stamp⟩) rfl)
  try dsimp only [nput] at L
  generalize (v3).setCell ⟨gO, 13, none⟩ (.int .u64 ((y : Nat) : Int)) = w4 at L ⊢
  have O_16 := L.at_ 1 16 rfl (v := .int .i64 0) rfl
  have O_14 := L.at_ 1 14 rfl (v := .bool true) rfl
  have O_13 := L.at_ 1 13 rfl (v := .int .u64 ((y : Nat) : Int)) rfl
  have O_z := L.lt 1 rfl
  go_upto_region 18 with fail
  clear O_16 O_14 O_13 O_z
  have O_16 := L.at_ 1 16 rfl (v := .int .i64 0) rfl
  have O_z := L.lt 1 rfl
  have O_f16 := L.fz 1 16 rfl
  go_upto_region 19 with fail
  clear O_16 O_z O_f16
  replace L := ((L.set 1 16 rfl (.int .i64 1)).is 1 (opv ⟨A0, n0, c0, A1, n1, c1, A2, n2, c2, A3, n3, c3⟩ ⟨kind, addr, err, aad, used, 5, shard, sought, (lf : Int), bit, y, true, 1, tries, item, stamp⟩) rfl)
  try dsimp only [nput] at L
  generalize (w4).setCell ⟨gO, 16, none⟩ (.int .i64 1) = w5 at L ⊢
  have O_8 := L.at_ 1 8 rfl (v := .int .i64 5) rfl
  have O_z := L.lt 1 rfl
  have O_f8 := L.fz 1 8 rfl
  go_upto_region 20 with fail
  clear O_8 O_z O_f8
  replace L := ((L.set 1 8 rfl (.int .i64 4)).is 1 (opv ⟨A0, n0, c0, A1, n1, c1, A2, n2, c2, A3, n3, c3⟩ ⟨kind, addr, err, aad, used, 4, shard, sought, (lf : Int), bit, y, true, 1, tries, item, stamp⟩) rfl)
  try dsimp only [nput] at L
  generalize (w5).setCell ⟨gO, 8, none⟩ (.int .i64 4) = w6 at L ⊢
  replace L := L.drew
  refine wp_region_held_drew (S := fun w' => ∃ v_R : Array Value, v_R.size = 20 ∧ Loc w w' [(gR, 40, v_R), (gO, 40, opv ⟨A0, n0, c0, A1, n1, c1, A2, n2, c2, A3, n3, c3⟩ ⟨kind, addr, err, aad, used, 4, shard, sought, (lf : Int), bit, y, true, 1, tries, item, stamp⟩), (gH, 27, #[.int .u32 (a : Int), .int .i64 p, .slice A n c, .int .i64 (ns : Int), .int .i64 wo, .int .i64 qu, .int .i64 tr])] []) (by kernel_rfl) (⟨_, rfl, L⟩) (fun hHeld => ?_)
  generalize w6.drew = v7 at hHeld L ⊢
  refine wpAnyH_take (i := 0) (oi := ⟨some 91, _, _, _, _, _⟩) (v := .slice (some ⟨bb, oo, none⟩) m d) rfl (by kernel_rfl) (by kernel_rfl) (by kernel_rfl) (fun _ _ _ h => h) (Or.inl ⟨by rfl, ?_⟩) hHeld ?_
  · intro ww hS
    try dsimp only at hS
    go_simp
    try with_reducible rfl
    try omega
  try simp only [Act.put, List.setIfInBounds_toArray, List.set_cons_zero, List.set_cons_succ]
  refine wpAnyH_take (i := 1) (oi := ⟨some 92, _, _, _, _, _⟩) (v := .agg (opv ⟨A0, n0, c0, A1, n1, c1, A2, n2, c2, A3, n3, c3⟩ ⟨kind, addr, err, aad, used, 4, shard, sought, (lf : Int), bit, y, true, 1, tries, item, stamp⟩)) rfl (by kernel_rfl) (by kernel_rfl) (by kernel_rfl) (fun _ _ _ h => h) (yieldsIf_load_row (by rfl) 40 (.tmp 5) rfl gO rfl 40 _ (0, 0) _ (fun _ hS => ((hS.choose_spec.2).bk_ 1 rfl)) Tryz.underlying40 rfl op_sz) hHeld ?_
  try simp only [Act.put, List.setIfInBounds_toArray, List.set_cons_zero, List.set_cons_succ]
  refine wpAnyH_take (i := 2) (oi := ⟨some 6, _, _, _, _, _⟩) (v := .slice (some ⟨bb, oo, none⟩) m d) rfl (by kernel_rfl) (by kernel_rfl) (by kernel_rfl) (fun _ _ _ h => h) (Or.inl ⟨by rfl, ?_⟩) hHeld ?_
  · intro ww hS
    try dsimp only at hS
    go_simp
    try with_reducible rfl
    try omega
  try simp only [Act.put, List.setIfInBounds_toArray, List.set_cons_zero, List.set_cons_succ]
  refine wpAnyH_ready (rs := [3]) (by kernel_rfl) (by simp) ?_
  refine AllReadyH.cons (o := ⟨none, _, _, _, _, _⟩) rfl (fun K0 hK => ?_) AllReadyH.nil
  rw [if_pos (by rfl)]
  refine wp_store_row 40 (.tmp 7) (.tmp 92) rfl gR _ rfl rfl _ _ (L.bk_ 0 rfl) op_sz rfl (opv_one _ _) ?_
  replace L := L.row 0 rfl (opv ⟨A0, n0, c0, A1, n1, c1, A2, n2, c2, A3, n3, c3⟩ ⟨kind, addr, err, aad, used, 4, shard, sought, (lf : Int), bit, y, true, 1, tries, item, stamp⟩)
  try dsimp only [nput] at L
  refine hK.out _ _ ⟨_, rfl, L⟩ (fun hHeld' => ?_)
  clear hHeld hK K0
  have hHeld := hHeld'
  clear hHeld'
  generalize v7.setRow gR (opv ⟨A0, n0, c0, A1, n1, c1, A2, n2, c2, A3, n3, c3⟩ ⟨kind, addr, err, aad, used, 4, shard, sought, (lf : Int), bit, y, true, 1, tries, item, stamp⟩) = v8 at hHeld L ⊢
  try simp only [Act.put]
  refine wpAnyH_done (by kernel_rfl) ?_ _
  clear hHeld
  go_wp2
  refine bodyPost_ret (v := .tuple #[.slice (some ⟨bb, oo, none⟩) m d, .agg (opv ⟨A0, n0, c0, A1, n1, c1, A2, n2, c2, A3, n3, c3⟩ ⟨kind, addr, err, aad, used, 4, shard, sought, (lf : Int), bit, y, true, 1, tries, item, stamp⟩)]) ?_ rfl ?_
  · exact results_tc (fn := Tryz.f39) Tryz.results39 _ _ gR _ _ (0, 0) _ rfl (L.bk_ 0 rfl) Tryz.underlying40 rfl op_sz
  exact ⟨_, _, rfl, hU.below L.K, fun k _ h => h, L.K⟩
set_option maxRecDepth 100000 in
set_option maxHeartbeats 2000000 in
theorem rmx_14n (ha : a < 4294967296) (hM : Much a p M) (hU : US w B m d ys) (hm : m = lv M + tv M + 1) (hk : s.kind ≠ 4) (hlf : s.leaf = (lf : Int)) (hlv : lf < lv M) (hw : s.word < 18446744073709551616) (hfu : s.full = true) (hcl : cl = lv M + tv M) (hb : b = lf / 64) (hat : s.at_ = 1) (hph : s.phase = 4) (hbit : (gt ys cl).testBit b = false) :
    Calls Tryz.prog 39 #[.agg #[.int .u32 (a : Int), .int .i64 p, .slice A n c, .int .i64 (ns : Int), .int .i64 wo, .int .i64 qu, .int .i64 tr], .slice B m d, .agg (opv h s)] w (RetRM (setp (worded s (gt ys cl))) h m ys B w) := by
  have hm9 := hM.most
  have hl3 := lv_le hm9
  have ht3 := tv_le hm9
  have hm6 : m ≤ 65536 := by omega
  have hb2 : b < 64 := by omega
  have hcm : cl < m := by omega
  have TT := fun w => Lib.hid (rtop_any M lf hM.most (by omega) w)
  have TR := fun w => Lib.hid (rroot_any M lf hM.most (by omega) w)
  rw [← hcl, ← hb] at TR
  generalize (lv M + lf / 64) = q1 at TT
  generalize lf % 64 = q2 at TT
  obtain ⟨bb, oo, hBe, hbb, hcc⟩ := hU.get hcm
  subst hBe
  have TH := fun w => Lib.hid (rhas_any (gt ys cl) b (gt_lt hU.fit cl) hb2 w)
  rw [hbit] at TH
  clear hbit
  obtain ⟨x, hx⟩ : ∃ x, x = gt ys cl := ⟨_, rfl⟩
  rw [← hx] at hcc TH ⊢
  clear hx
  have hcm2 : (cl : Int) < (m : Int) := by omega
  clear hcl hb hm9 hl3 ht3 hm ha hk
  rcases s with ⟨kind, addr, err, aad, used, phase, shard, sought, leaf, bit, word, full, at_, tries, item, stamp⟩
  rcases h with ⟨A0, n0, c0, A1, n1, c1, A2, n2, c2, A3, n3, c3⟩
  try dsimp only at *
  subst hlf hat hph hfu
  go_enter Tryz.func39, Tryz.ntmps39
  go_upto_region 1 with (fail)
  have L := Loc.start w
  replace L := (((L).alloc #[.int .u32 (a : Int), .int .i64 p, .slice A n c, .int .i64 (ns : Int), .int .i64 wo, .int .i64 qu, .int .i64 tr] 27).alloc (opv ⟨A0, n0, c0, A1, n1, c1, A2, n2, c2, A3, n3, c3⟩ ⟨kind, addr, err, aad, used, 4, shard, sought, (lf : Int), bit, word, true, 1, tries, item, stamp⟩) 40).alloc #[.int .i64 0, .int .u32 0, .slice none 0 0, .int .i64 0, .int .u32 0, .bool false, .slice none 0 0, .slice none 0 0, .int .i64 0, .int .i64 0, .int .i64 0, .int .i64 0, .int .i64 0, .int .u64 0, .bool false, .slice none 0 0, .int .i64 0, .int .i64 0, .int .i64 0, .int .i64 0] 40
  try simp only [World.size_alloc] at L
  replace L := L.is 0 (opv hd0 sc0) rfl
  try dsimp only [nput] at L
  generalize (((w).alloc (.cells #[.int .u32 (a : Int), .int .i64 p, .slice A n c, .int .i64 (ns : Int), .int .i64 wo, .int .i64 qu, .int .i64 tr] 27)).alloc (.cells (opv ⟨A0, n0, c0, A1, n1, c1, A2, n2, c2, A3, n3, c3⟩ ⟨kind, addr, err, aad, used, 4, shard, sought, (lf : Int), bit, word, true, 1, tries, item, stamp⟩) 40)).alloc (.cells #[.int .i64 0, .int .u32 0, .slice none 0 0, .int .i64 0, .int .u32 0, .bool false, .slice none 0 0, .slice none 0 0, .int .i64 0, .int .i64 0, .int .i64 0, .int .i64 0, .int .i64 0, .int .u64 0, .bool false, .slice none 0 0, .int .i64 0, .int .i64 0, .int .i64 0, .int .i64 0] 40) = w1 at L ⊢
  generalize w.heap.size + 1 + 1 = gR at L ⊢
  generalize w.heap.size + 1 = gO at L ⊢
  generalize w.heap.size = gH at L ⊢
  have H_0 := L.at_ 2 0 rfl (v := .int .u32 (a : Int)) rfl
  have H_1 := L.at_ 2 1 rfl (v := .int .i64 p) rfl
  have H_z := L.lt 2 rfl
  go_wp2_with fail
  refine (rmany_yes hM).mono ?_
  rintro e w2 ⟨rfl, K'⟩
  clear H_0 H_1 H_z
  replace L := L.over K'
  have O_11 := L.at_ 1 11 rfl (v := .int .i64 (lf : Int)) rfl
  have O_z := L.lt 1 rfl
  go_wp2_with fail
  refine ((TT _).out).mono ?_
  rintro e w' ⟨rfl, rfl⟩
  clear O_11 O_z
  have O_16 := L.at_ 1 16 rfl (v := .int .i64 1) rfl
  have O_11 := L.at_ 1 11 rfl (v := .int .i64 (lf : Int)) rfl
  have O_z := L.lt 1 rfl
  go_wp2_with fail
  refine ((TR _).out).mono ?_
  rintro e w' ⟨rfl, rfl⟩
  clear O_16 O_11 O_z
  have O_8 := L.at_ 1 8 rfl (v := .int .i64 4) rfl
  have O_13 := L.at_ 1 13 rfl (v := .int .u64 ((word : Nat) : Int)) rfl
  have O_z := L.lt 1 rfl
  have O_f13 := L.fz 1 13 rfl
  have X := (L.K.cell (p := ⟨bb, oo + cl, none⟩) hbb).trans hcc
  go_upto_region 7 with fail
  clear O_8 O_13 O_z O_f13 X
  replace L := ((L.set 1 13 rfl (.int .u64 ((x : Nat) : Int))).is 1 (opv ⟨A0, n0, c0, A1, n1, c1, A2, n2, c2, A3, n3, c3⟩ ⟨kind, addr, err, aad, used, 4, shard, sought, (lf : Int), bit, x, true, 1, tries, item, stamp⟩) rfl)
  try dsimp only [nput] at L
  generalize (w2).setCell ⟨gO, 13, none⟩ (.int .u64 ((x : Nat) : Int)) = w3 at L ⊢
  replace L := L.drew
  refine wp_region_held_drew (S := fun w' => Loc w w' [(gR, 40, opv hd0 sc0), (gO, 40, opv ⟨A0, n0, c0, A1, n1, c1, A2, n2, c2, A3, n3, c3⟩ ⟨kind, addr, err, aad, used, 4, shard, sought, (lf : Int), bit, x, true, 1, tries, item, stamp⟩), (gH, 27, #[.int .u32 (a : Int), .int .i64 p, .slice A n c, .int .i64 (ns : Int), .int .i64 wo, .int .i64 qu, .int .i64 tr])] []) (by kernel_rfl) L (fun hHeld => ?_)
  generalize w3.drew = v4 at hHeld L ⊢
  refine wpAnyH_take (i := 0) (oi := ⟨some 40, _, _, _, _, _⟩) (v := .pointer (some ⟨gO, 13, none⟩)) rfl (by kernel_rfl) (by kernel_rfl) (by kernel_rfl) (fun _ _ _ h => h) (Or.inl ⟨by rfl, ?_⟩) hHeld ?_
  · intro ww hS
    try dsimp only at hS
    go_simp
    try with_reducible rfl
    try omega
  try simp only [Act.put, List.setIfInBounds_toArray, List.set_cons_zero, List.set_cons_succ]
  refine wpAnyH_take (i := 1) (oi := ⟨some 41, _, _, _, _, _⟩) (v := .int .u64 ((x : Nat) : Int)) rfl (by kernel_rfl) (by kernel_rfl) (by kernel_rfl) (fun _ _ _ h => h) (Or.inl ⟨by rfl, ?_⟩) hHeld ?_
  · intro ww hS
    try dsimp only at hS
    have O_13 := (hS).at_ 1 13 rfl (v := .int .u64 ((x : Nat) : Int)) rfl
    have O_z := (hS).lt 1 rfl
    go_simp
    try with_reducible rfl
    try omega
  try simp only [Act.put, List.setIfInBounds_toArray, List.set_cons_zero, List.set_cons_succ]
  refine wpAnyH_take (i := 2) (oi := ⟨some 42, _, _, _, _, _⟩) (v := .int .i64 (b : Int)) rfl (by kernel_rfl) (by kernel_rfl) (by kernel_rfl) (fun _ _ _ h => h) (Or.inl ⟨by rfl, ?_⟩) hHeld ?_
  · intro ww hS
    try dsimp only at hS
    go_simp
    try with_reducible rfl
    try omega
  try simp only [Act.put, List.setIfInBounds_toArray, List.set_cons_zero, List.set_cons_succ]
  refine wpAnyH_take (i := 4) (oi := ⟨some 44, _, _, _, _, _⟩) (v := .pointer (some ⟨gO, 14, none⟩)) rfl (by kernel_rfl) (by kernel_rfl) (by kernel_rfl) (fun _ _ _ h => h) (Or.inl ⟨by rfl, ?_⟩) hHeld ?_
  · intro ww hS
    try dsimp only at hS
    go_simp
    try with_reducible rfl
    try omega
  try simp only [Act.put, List.setIfInBounds_toArray, List.set_cons_zero, List.set_cons_succ]
  refine wpAnyH_take (i := 5) (oi := ⟨some 45, _, _, _, _, _⟩) (v := .bool true) rfl (by kernel_rfl) (by kernel_rfl) (by kernel_rfl) (fun _ _ _ h => h) (Or.inl ⟨by rfl, ?_⟩) hHeld ?_
  · intro ww hS
    try dsimp only at hS
    have O_14 := (hS).at_ 1 14 rfl (v := .bool true) rfl
    have O_z := (hS).lt 1 rfl
    go_simp
    try with_reducible rfl
    try omega
  try simp only [Act.put, List.setIfInBounds_toArray, List.set_cons_zero, List.set_cons_succ]
  refine wpAnyH_ready (rs := [3]) (by kernel_rfl) (by simp) ?_
  refine AllReadyH.cons (o := ⟨some 43, _, _, _, _, _⟩) rfl (fun K0 hK => ?_) AllReadyH.nil
  go_simp
  refine ((TH _).out).mono ?_
  rintro e w' ⟨rfl, rfl⟩
  refine hK.out _ _ L (fun hHeld' => ?_)
  clear hHeld hK K0
  have hHeld := hHeld'
  clear hHeld'
  try simp only [Act.put, List.setIfInBounds_toArray, List.set_cons_zero, List.set_cons_succ]
  refine wpAnyH_take (i := 6) (oi := ⟨some 46, _, _, _, _, _⟩) (v := .bool true) rfl (by kernel_rfl) (by kernel_rfl) (by kernel_rfl) (fun _ _ _ h => h) (Or.inl ⟨by rfl, ?_⟩) hHeld ?_
  · intro ww hS
    try dsimp only at hS
    go_simp
    try with_reducible rfl
    try omega
  try simp only [Act.put, List.setIfInBounds_toArray, List.set_cons_zero, List.set_cons_succ]
  refine wpAnyH_done (by kernel_rfl) ?_ _
  clear hHeld
  have O_8 := L.at_ 1 8 rfl (v := .int .i64 4) rfl
  have O_z := L.lt 1 rfl
  have O_f8 := L.fz 1 8 rfl
  go_upto_region 9 with fail
  clear O_8 O_z O_f8
  replace L := ((L.set 1 8 rfl (.int .i64 5)).is 1 (opv ⟨A0, n0, c0, A1, n1, c1, A2, n2, c2, A3, n3, c3⟩ ⟨kind, addr, err, aad, used, 5, shard, sought, (lf : Int), bit, x, true, 1, tries, item, stamp⟩) rfl)
  try dsimp only [nput] at L
  generalize (v4).setCell ⟨gO, 8, none⟩ (.int .i64 5) = w5 at L ⊢
  replace L := L.drew
  refine wp_region_held_drew (S := fun w' => ∃ v_R : Array Value, v_R.size = 20 ∧ Loc w w' [(gR, 40, v_R), (gO, 40, opv ⟨A0, n0, c0, A1, n1, c1, A2, n2, c2, A3, n3, c3⟩ ⟨kind, addr, err, aad, used, 5, shard, sought, (lf : Int), bit, x, true, 1, tries, item, stamp⟩), (gH, 27, #[.int .u32 (a : Int), .int .i64 p, .slice A n c, .int .i64 (ns : Int), .int .i64 wo, .int .i64 qu, .int .i64 tr])] []) (by kernel_rfl) (⟨_, rfl, L⟩) (fun hHeld => ?_)
  generalize w5.drew = v6 at hHeld L ⊢
  refine wpAnyH_take (i := 0) (oi := ⟨some 48, _, _, _, _, _⟩) (v := .slice (some ⟨bb, oo, none⟩) m d) rfl (by kernel_rfl) (by kernel_rfl) (by kernel_rfl) (fun _ _ _ h => h) (Or.inl ⟨by rfl, ?_⟩) hHeld ?_
  · intro ww hS
    try dsimp only at hS
    go_simp
    try with_reducible rfl
    try omega
  try simp only [Act.put, List.setIfInBounds_toArray, List.set_cons_zero, List.set_cons_succ]
  refine wpAnyH_take (i := 1) (oi := ⟨some 49, _, _, _, _, _⟩) (v := .agg (opv ⟨A0, n0, c0, A1, n1, c1, A2, n2, c2, A3, n3, c3⟩ ⟨kind, addr, err, aad, used, 5, shard, sought, (lf : Int), bit, x, true, 1, tries, item, stamp⟩)) rfl (by kernel_rfl) (by kernel_rfl) (by kernel_rfl) (fun _ _ _ h => h) (yieldsIf_load_row (by rfl) 40 (.tmp 5) rfl gO rfl 40 _ (0, 0) _ (fun _ hS => ((hS.choose_spec.2).bk_ 1 rfl)) Tryz.underlying40 rfl op_sz) hHeld ?_
  try simp only [Act.put, List.setIfInBounds_toArray, List.set_cons_zero, List.set_cons_succ]
  refine wpAnyH_take (i := 2) (oi := ⟨some 6, _, _, _, _, _⟩) (v := .slice (some ⟨bb, oo, none⟩) m d) rfl (by kernel_rfl) (by kernel_rfl) (by kernel_rfl) (fun _ _ _ h => h) (Or.inl ⟨by rfl, ?_⟩) hHeld ?_
  · intro ww hS
    try dsimp only at hS
    go_simp
    try with_reducible rfl
    try omega
  try simp only [Act.put, List.setIfInBounds_toArray, List.set_cons_zero, List.set_cons_succ]
  refine wpAnyH_ready (rs := [3]) (by kernel_rfl) (by simp) ?_
  refine AllReadyH.cons (o := ⟨none, _, _, _, _, _⟩) rfl (fun K0 hK => ?_) AllReadyH.nil
  rw [if_pos (by rfl)]
  refine wp_store_row 40 (.tmp 7) (.tmp 49) rfl gR _ rfl rfl _ _ (L.bk_ 0 rfl) op_sz rfl (opv_one _ _) ?_
  replace L := L.row 0 rfl (opv ⟨A0, n0, c0, A1, n1, c1, A2, n2, c2, A3, n3, c3⟩ ⟨kind, addr, err, aad, used, 5, shard, sought, (lf : Int), bit, x, true, 1, tries, item, stamp⟩)
  try dsimp only [nput] at L
  refine hK.out _ _ ⟨_, rfl, L⟩ (fun hHeld' => ?_)
  clear hHeld hK K0
  have hHeld := hHeld'
  clear hHeld'
  generalize v6.setRow gR (opv ⟨A0, n0, c0, A1, n1, c1, A2, n2, c2, A3, n3, c3⟩ ⟨kind, addr, err, aad, used, 5, shard, sought, (lf : Int), bit, x, true, 1, tries, item, stamp⟩) = v7 at hHeld L ⊢
  try simp only [Act.put]
  refine wpAnyH_done (by kernel_rfl) ?_ _
  clear hHeld
  go_wp2
  refine bodyPost_ret (v := .tuple #[.slice (some ⟨bb, oo, none⟩) m d, .agg (opv ⟨A0, n0, c0, A1, n1, c1, A2, n2, c2, A3, n3, c3⟩ ⟨kind, addr, err, aad, used, 5, shard, sought, (lf : Int), bit, x, true, 1, tries, item, stamp⟩)]) ?_ rfl ?_
  · exact results_tc (fn := Tryz.f39) Tryz.results39 _ _ gR _ _ (0, 0) _ rfl (L.bk_ 0 rfl) Tryz.underlying40 rfl op_sz
  exact ⟨_, _, rfl, hU.below L.K, fun k _ h => h, L.K⟩
set_option maxRecDepth 100000 in
set_option maxHeartbeats 2000000 in
theorem rmx_14ea (ha : a < 4294967296) (hM : Much a p M) (hU : US w B m d ys) (hm : m = lv M + tv M + 1) (hk : s.kind ≠ 4) (hlf : s.leaf = (lf : Int)) (hlv : lf < lv M) (hw : s.word < 18446744073709551616) (hfu : s.full = true) (hcl : cl = lv M + tv M) (hb : b = lf / 64) (hat : s.at_ = 1) (hph : s.phase = 4) (hbit : (gt ys cl).testBit b = true) :
    Calls Tryz.prog 39 #[.agg #[.int .u32 (a : Int), .int .i64 p, .slice A n c, .int .i64 (ns : Int), .int .i64 wo, .int .i64 qu, .int .i64 tr], .slice B m d, .agg (opv h s)] w (RetRM (ende (worded s (gt ys cl))) h m ys B w) := by
  have hm9 := hM.most
  have hl3 := lv_le hm9
  have ht3 := tv_le hm9
  have hm6 : m ≤ 65536 := by omega
  have hb2 : b < 64 := by omega
  have hcm : cl < m := by omega
  have TT := fun w => Lib.hid (rtop_any M lf hM.most (by omega) w)
  have TR := fun w => Lib.hid (rroot_any M lf hM.most (by omega) w)
  rw [← hcl, ← hb] at TR
  generalize (lv M + lf / 64) = q1 at TT
  generalize lf % 64 = q2 at TT
  obtain ⟨bb, oo, hBe, hbb, hcc⟩ := hU.get hcm
  subst hBe
  have TH := fun w => Lib.hid (rhas_any (gt ys cl) b (gt_lt hU.fit cl) hb2 w)
  rw [hbit] at TH
  clear hbit
  obtain ⟨x, hx⟩ : ∃ x, x = gt ys cl := ⟨_, rfl⟩
  rw [← hx] at hcc TH ⊢
  clear hx
  have TG := fun w => Lib.hid (rgoes_end0 (w := w) (h := h) (a := a) (p := p) (sh := (ns : Int)) (wo := wo) (qu := qu) (tr := tr) (A := A) (n := n) (c := c) (s := worded s x) (show (worded s _).kind ≠ 4 from hk))
  have hcm2 : (cl : Int) < (m : Int) := by omega
  clear hcl hb hm9 hl3 ht3 hm ha hk
  rcases s with ⟨kind, addr, err, aad, used, phase, shard, sought, leaf, bit, word, full, at_, tries, item, stamp⟩
  rcases h with ⟨A0, n0, c0, A1, n1, c1, A2, n2, c2, A3, n3, c3⟩
  try dsimp only at *
  subst hlf hat hph hfu
  go_enter Tryz.func39, Tryz.ntmps39
  go_upto_region 1 with (fail)
  have L := Loc.start w
  replace L := (((L).alloc #[.int .u32 (a : Int), .int .i64 p, .slice A n c, .int .i64 (ns : Int), .int .i64 wo, .int .i64 qu, .int .i64 tr] 27).alloc (opv ⟨A0, n0, c0, A1, n1, c1, A2, n2, c2, A3, n3, c3⟩ ⟨kind, addr, err, aad, used, 4, shard, sought, (lf : Int), bit, word, true, 1, tries, item, stamp⟩) 40).alloc #[.int .i64 0, .int .u32 0, .slice none 0 0, .int .i64 0, .int .u32 0, .bool false, .slice none 0 0, .slice none 0 0, .int .i64 0, .int .i64 0, .int .i64 0, .int .i64 0, .int .i64 0, .int .u64 0, .bool false, .slice none 0 0, .int .i64 0, .int .i64 0, .int .i64 0, .int .i64 0] 40
  try simp only [World.size_alloc] at L
  replace L := L.is 0 (opv hd0 sc0) rfl
  try dsimp only [nput] at L
  generalize (((w).alloc (.cells #[.int .u32 (a : Int), .int .i64 p, .slice A n c, .int .i64 (ns : Int), .int .i64 wo, .int .i64 qu, .int .i64 tr] 27)).alloc (.cells (opv ⟨A0, n0, c0, A1, n1, c1, A2, n2, c2, A3, n3, c3⟩ ⟨kind, addr, err, aad, used, 4, shard, sought, (lf : Int), bit, word, true, 1, tries, item, stamp⟩) 40)).alloc (.cells #[.int .i64 0, .int .u32 0, .slice none 0 0, .int .i64 0, .int .u32 0, .bool false, .slice none 0 0, .slice none 0 0, .int .i64 0, .int .i64 0, .int .i64 0, .int .i64 0, .int .i64 0, .int .u64 0, .bool false, .slice none 0 0, .int .i64 0, .int .i64 0, .int .i64 0, .int .i64 0] 40) = w1 at L ⊢
  generalize w.heap.size + 1 + 1 = gR at L ⊢
  generalize w.heap.size + 1 = gO at L ⊢
  generalize w.heap.size = gH at L ⊢
  have H_0 := L.at_ 2 0 rfl (v := .int .u32 (a : Int)) rfl
  have H_1 := L.at_ 2 1 rfl (v := .int .i64 p) rfl
  have H_z := L.lt 2 rfl
  go_wp2_with fail
  refine (rmany_yes hM).mono ?_
  rintro e w2 ⟨rfl, K'⟩
  clear H_0 H_1 H_z
  replace L := L.over K'
  have O_11 := L.at_ 1 11 rfl (v := .int .i64 (lf : Int)) rfl
  have O_z := L.lt 1 rfl
  go_wp2_with fail
  refine ((TT _).out).mono ?_
  rintro e w' ⟨rfl, rfl⟩
  clear O_11 O_z
  have O_16 := L.at_ 1 16 rfl (v := .int .i64 1) rfl
  have O_11 := L.at_ 1 11 rfl (v := .int .i64 (lf : Int)) rfl
  have O_z := L.lt 1 rfl
  go_wp2_with fail
  refine ((TR _).out).mono ?_
  rintro e w' ⟨rfl, rfl⟩
  clear O_16 O_11 O_z
  have O_8 := L.at_ 1 8 rfl (v := .int .i64 4) rfl
  have O_13 := L.at_ 1 13 rfl (v := .int .u64 ((word : Nat) : Int)) rfl
  have O_z := L.lt 1 rfl
  have O_f13 := L.fz 1 13 rfl
  have X := (L.K.cell (p := ⟨bb, oo + cl, none⟩) hbb).trans hcc
  go_upto_region 7 with fail
  clear O_8 O_13 O_z O_f13 X
  replace L := ((L.set 1 13 rfl (.int .u64 ((x : Nat) : Int))).is 1 (opv ⟨A0, n0, c0, A1, n1, c1, A2, n2, c2, A3, n3, c3⟩ ⟨kind, addr, err, aad, used, 4, shard, sought, (lf : Int), bit, x, true, 1, tries, item, stamp⟩) rfl)
  try dsimp only [nput] at L
  generalize (w2).setCell ⟨gO, 13, none⟩ (.int .u64 ((x : Nat) : Int)) = w3 at L ⊢
  replace L := L.drew
  refine wp_region_held_drew (S := fun w' => Loc w w' [(gR, 40, opv hd0 sc0), (gO, 40, opv ⟨A0, n0, c0, A1, n1, c1, A2, n2, c2, A3, n3, c3⟩ ⟨kind, addr, err, aad, used, 4, shard, sought, (lf : Int), bit, x, true, 1, tries, item, stamp⟩), (gH, 27, #[.int .u32 (a : Int), .int .i64 p, .slice A n c, .int .i64 (ns : Int), .int .i64 wo, .int .i64 qu, .int .i64 tr])] []) (by kernel_rfl) L (fun hHeld => ?_)
  generalize w3.drew = v4 at hHeld L ⊢
  refine wpAnyH_take (i := 0) (oi := ⟨some 40, _, _, _, _, _⟩) (v := .pointer (some ⟨gO, 13, none⟩)) rfl (by kernel_rfl) (by kernel_rfl) (by kernel_rfl) (fun _ _ _ h => h) (Or.inl ⟨by rfl, ?_⟩) hHeld ?_
  · intro ww hS
    try dsimp only at hS
    go_simp
    try with_reducible rfl
    try omega
  try simp only [Act.put, List.setIfInBounds_toArray, List.set_cons_zero, List.set_cons_succ]
  refine wpAnyH_take (i := 1) (oi := ⟨some 41, _, _, _, _, _⟩) (v := .int .u64 ((x : Nat) : Int)) rfl (by kernel_rfl) (by kernel_rfl) (by kernel_rfl) (fun _ _ _ h => h) (Or.inl ⟨by rfl, ?_⟩) hHeld ?_
  · intro ww hS
    try dsimp only at hS
    have O_13 := (hS).at_ 1 13 rfl (v := .int .u64 ((x : Nat) : Int)) rfl
    have O_z := (hS).lt 1 rfl
    go_simp
    try with_reducible rfl
    try omega
  try simp only [Act.put, List.setIfInBounds_toArray, List.set_cons_zero, List.set_cons_succ]
  refine wpAnyH_take (i := 2) (oi := ⟨some 42, _, _, _, _, _⟩) (v := .int .i64 (b : Int)) rfl (by kernel_rfl) (by kernel_rfl) (by kernel_rfl) (fun _ _ _ h => h) (Or.inl ⟨by rfl, ?_⟩) hHeld ?_
  · intro ww hS
    try dsimp only at hS
    go_simp
    try with_reducible rfl
    try omega
  try simp only [Act.put, List.setIfInBounds_toArray, List.set_cons_zero, List.set_cons_succ]
  refine wpAnyH_take (i := 4) (oi := ⟨some 44, _, _, _, _, _⟩) (v := .pointer (some ⟨gO, 14, none⟩)) rfl (by kernel_rfl) (by kernel_rfl) (by kernel_rfl) (fun _ _ _ h => h) (Or.inl ⟨by rfl, ?_⟩) hHeld ?_
  · intro ww hS
    try dsimp only at hS
    go_simp
    try with_reducible rfl
    try omega
  try simp only [Act.put, List.setIfInBounds_toArray, List.set_cons_zero, List.set_cons_succ]
  refine wpAnyH_take (i := 5) (oi := ⟨some 45, _, _, _, _, _⟩) (v := .bool true) rfl (by kernel_rfl) (by kernel_rfl) (by kernel_rfl) (fun _ _ _ h => h) (Or.inl ⟨by rfl, ?_⟩) hHeld ?_
  · intro ww hS
    try dsimp only at hS
    have O_14 := (hS).at_ 1 14 rfl (v := .bool true) rfl
    have O_z := (hS).lt 1 rfl
    go_simp
    try with_reducible rfl
    try omega
  try simp only [Act.put, List.setIfInBounds_toArray, List.set_cons_zero, List.set_cons_succ]
  refine wpAnyH_ready (rs := [3]) (by kernel_rfl) (by simp) ?_
  refine AllReadyH.cons (o := ⟨some 43, _, _, _, _, _⟩) rfl (fun K0 hK => ?_) AllReadyH.nil
  go_simp
  refine ((TH _).out).mono ?_
  rintro e w' ⟨rfl, rfl⟩
  refine hK.out _ _ L (fun hHeld' => ?_)
  clear hHeld hK K0
  have hHeld := hHeld'
  clear hHeld'
  try simp only [Act.put, List.setIfInBounds_toArray, List.set_cons_zero, List.set_cons_succ]
  refine wpAnyH_take (i := 6) (oi := ⟨some 46, _, _, _, _, _⟩) (v := .bool false) rfl (by kernel_rfl) (by kernel_rfl) (by kernel_rfl) (fun _ _ _ h => h) (Or.inl ⟨by rfl, ?_⟩) hHeld ?_
  · intro ww hS
    try dsimp only at hS
    go_simp
    try with_reducible rfl
    try omega
  try simp only [Act.put, List.setIfInBounds_toArray, List.set_cons_zero, List.set_cons_succ]
  refine wpAnyH_done (by kernel_rfl) ?_ _
  clear hHeld
  have O_16 := L.at_ 1 16 rfl (v := .int .i64 1) rfl
  have O_z := L.lt 1 rfl
  go_upto_region 17 with fail
  clear O_16 O_z
  go_wp2_with (first | (refine wpList_load_row rfl 27 (.tmp 3) rfl gH rfl _ _ (0, 0) _ (L.bk_ 2 rfl) Tryz.underlying27 rfl cf_sz ?_) | (refine wpList_load_row rfl 40 (.tmp 5) rfl gO rfl _ _ (0, 0) _ (L.bk_ 1 rfl) Tryz.underlying40 rfl op_sz ?_))
  refine ((TG _).out).mono ?_
  rintro e w5 ⟨rfl, K'⟩
  replace L := L.over K'
  go_wp2_with (refine wpList_store_row rfl 40 (.tmp 7) (.tmp 88) rfl gR _ rfl rfl _ _ (L.bk_ 0 rfl) op_sz rfl (opv_one _ _) ?_)
  replace L := (L.row 0 rfl (opv ⟨A0, n0, c0, A1, n1, c1, A2, n2, c2, A3, n3, c3⟩ (ende (worded ⟨kind, addr, err, aad, used, 4, shard, sought, (lf : Int), bit, word, true, 1, tries, item, stamp⟩ x))))
  try dsimp only [nput] at L
  generalize (w5).setRow gR (opv ⟨A0, n0, c0, A1, n1, c1, A2, n2, c2, A3, n3, c3⟩ (ende (worded ⟨kind, addr, err, aad, used, 4, shard, sought, (lf : Int), bit, word, true, 1, tries, item, stamp⟩ x))) = w6 at L ⊢
  refine bodyPost_ret (v := .tuple #[.slice (some ⟨bb, oo, none⟩) m d, .agg (opv ⟨A0, n0, c0, A1, n1, c1, A2, n2, c2, A3, n3, c3⟩ (ende (worded ⟨kind, addr, err, aad, used, 4, shard, sought, (lf : Int), bit, word, true, 1, tries, item, stamp⟩ x)))]) ?_ rfl ?_
  · exact results_tc (fn := Tryz.f39) Tryz.results39 _ _ gR _ _ (0, 0) _ rfl (L.bk_ 0 rfl) Tryz.underlying40 rfl op_sz
  exact ⟨_, _, rfl, hU.below L.K, fun k _ h => h, L.K⟩
set_option maxRecDepth 100000 in
set_option maxHeartbeats 2000000 in
theorem rmx_15ya (ha : a < 4294967296) (hM : Much a p M) (hU : US w B m d ys) (hm : m = lv M + tv M + 1) (hk : s.kind ≠ 4) (hlf : s.leaf = (lf : Int)) (hlv : lf < lv M) (hw : s.word < 18446744073709551616) (hfu : s.full = true) (hcl : cl = lv M + tv M) (hb : b = lf / 64) (hat : s.at_ = 1) (hph : s.phase = 5) (heq : gt ys cl = s.word) :
    Calls Tryz.prog 39 #[.agg #[.int .u32 (a : Int), .int .i64 p, .slice A n c, .int .i64 (ns : Int), .int .i64 wo, .int .i64 qu, .int .i64 tr], .slice B m d, .agg (opv h s)] w (RetRM (ende (worded s (setb s.word b))) h m (ys.set cl (setb s.word b)) B w) := by
  have hm9 := hM.most
  have hl3 := lv_le hm9
  have ht3 := tv_le hm9
  have hm6 : m ≤ 65536 := by omega
  have hb2 : b < 64 := by omega
  have hcm : cl < m := by omega
  have TT := fun w => Lib.hid (rtop_any M lf hM.most (by omega) w)
  have TR := fun w => Lib.hid (rroot_any M lf hM.most (by omega) w)
  rw [← hcl, ← hb] at TR
  generalize (lv M + lf / 64) = q1 at TT
  generalize lf % 64 = q2 at TT
  obtain ⟨bb, oo, hBe, hbb, hcc⟩ := hU.get hcm
  subst hBe
  have TL := fun w => Lib.hid (rclear_any s.word b hw hb2 w)
  have TSt := fun w => Lib.hid (rset_any s.word b hw hb2 w)
  have hy := setb_lt hw hb2
  obtain ⟨y, hy1⟩ : ∃ y, y = setb s.word b := ⟨_, rfl⟩
  rw [← hy1] at hy ⊢
  replace TSt := fun w => Lib.hid ((show setb s.word b = y from hy1.symm) ▸ (TSt w).out)
  generalize clrb s.word b = z at TL
  clear hy1
  rw [heq] at hcc
  have f1 : ((s.word : Int) == (s.word : Int)) = true := by simp
  have TSe : ∀ w, US w (some ⟨bb, oo, none⟩) m d ys → Hid (Calls Tryz.prog 33 #[.slice (some ⟨bb, oo, none⟩) m d, .int .i64 (cl : Nat), .int .u64 (y : Nat)] w (RetSM m (ys.set cl y) w)) := fun w U => by have := crset_new U (cl : Int) hm6 hy; rw [stI_nat] at this; exact this
  clear heq
  have TG := fun w => Lib.hid (rgoes_end0 (w := w) (h := h) (a := a) (p := p) (sh := (ns : Int)) (wo := wo) (qu := qu) (tr := tr) (A := A) (n := n) (c := c) (s := worded s y) (show (worded s _).kind ≠ 4 from hk))
  have hcm2 : (cl : Int) < (m : Int) := by omega
  clear hcl hb hm9 hl3 ht3 hm ha hk
  rcases s with ⟨kind, addr, err, aad, used, phase, shard, sought, leaf, bit, word, full, at_, tries, item, stamp⟩
  rcases h with ⟨A0, n0, c0, A1, n1, c1, A2, n2, c2, A3, n3, c3⟩
  try dsimp only at *
  subst hlf hat hph hfu
  go_enter Tryz.func39, Tryz.ntmps39
  go_upto_region 1 with (fail)
  have L := Loc.start w
  replace L := (((L).alloc #[.int .u32 (a : Int), .int .i64 p, .slice A n c, .int .i64 (ns : Int), .int .i64 wo, .int .i64 qu, .int .i64 tr] 27).alloc (opv ⟨A0, n0, c0, A1, n1, c1, A2, n2, c2, A3, n3, c3⟩ ⟨kind, addr, err, aad, used, 5, shard, sought, (lf : Int), bit, word, true, 1, tries, item, stamp⟩) 40).alloc #[.int .i64 0, .int .u32 0, .slice none 0 0, .int .i64 0, .int .u32 0, .bool false, .slice none 0 0, .slice none 0 0, .int .i64 0, .int .i64 0, .int .i64 0, .int .i64 0, .int .i64 0, .int .u64 0, .bool false, .slice none 0 0, .int .i64 0, .int .i64 0, .int .i64 0, .int .i64 0] 40
  try simp only [World.size_alloc] at L
  replace L := L.is 0 (opv hd0 sc0) rfl
  try dsimp only [nput] at L
  generalize (((w).alloc (.cells #[.int .u32 (a : Int), .int .i64 p, .slice A n c, .int .i64 (ns : Int), .int .i64 wo, .int .i64 qu, .int .i64 tr] 27)).alloc (.cells (opv ⟨A0, n0, c0, A1, n1, c1, A2, n2, c2, A3, n3, c3⟩ ⟨kind, addr, err, aad, used, 5, shard, sought, (lf : Int), bit, word, true, 1, tries, item, stamp⟩) 40)).alloc (.cells #[.int .i64 0, .int .u32 0, .slice none 0 0, .int .i64 0, .int .u32 0, .bool false, .slice none 0 0, .slice none 0 0, .int .i64 0, .int .i64 0, .int .i64 0, .int .i64 0, .int .i64 0, .int .u64 0, .bool false, .slice none 0 0, .int .i64 0, .int .i64 0, .int .i64 0, .int .i64 0] 40) = w1 at L ⊢
  generalize w.heap.size + 1 + 1 = gR at L ⊢
  generalize w.heap.size + 1 = gO at L ⊢
  generalize w.heap.size = gH at L ⊢
  have H_0 := L.at_ 2 0 rfl (v := .int .u32 (a : Int)) rfl
  have H_1 := L.at_ 2 1 rfl (v := .int .i64 p) rfl
  have H_z := L.lt 2 rfl
  go_wp2_with fail
  refine (rmany_yes hM).mono ?_
  rintro e w2 ⟨rfl, K'⟩
  clear H_0 H_1 H_z
  replace L := L.over K'
  have O_11 := L.at_ 1 11 rfl (v := .int .i64 (lf : Int)) rfl
  have O_z := L.lt 1 rfl
  go_wp2_with fail
  refine ((TT _).out).mono ?_
  rintro e w' ⟨rfl, rfl⟩
  clear O_11 O_z
  have O_16 := L.at_ 1 16 rfl (v := .int .i64 1) rfl
  have O_11 := L.at_ 1 11 rfl (v := .int .i64 (lf : Int)) rfl
  have O_z := L.lt 1 rfl
  go_wp2_with fail
  refine ((TR _).out).mono ?_
  rintro e w' ⟨rfl, rfl⟩
  clear O_16 O_11 O_z
  have O_8 := L.at_ 1 8 rfl (v := .int .i64 5) rfl
  have O_13 := L.at_ 1 13 rfl (v := .int .u64 ((word : Nat) : Int)) rfl
  have O_z := L.lt 1 rfl
  go_wp2_with fail
  refine ((TL _).out).mono ?_
  rintro e w' ⟨rfl, rfl⟩
  clear O_8 O_13 O_z
  have O_14 := L.at_ 1 14 rfl (v := .bool true) rfl
  have O_13 := L.at_ 1 13 rfl (v := .int .u64 ((word : Nat) : Int)) rfl
  have O_z := L.lt 1 rfl
  go_wp2_with fail
  refine ((TSt _).out).mono ?_
  rintro e w' ⟨rfl, rfl⟩
  clear O_14 O_13 O_z
  go_upto_region 13 with (fail)
  replace L := L.drew
  refine wp_region_held_drew (S := fun w' => Loc w w' [(gR, 40, opv hd0 sc0), (gO, 40, opv ⟨A0, n0, c0, A1, n1, c1, A2, n2, c2, A3, n3, c3⟩ ⟨kind, addr, err, aad, used, 5, shard, sought, (lf : Int), bit, word, true, 1, tries, item, stamp⟩), (gH, 27, #[.int .u32 (a : Int), .int .i64 p, .slice A n c, .int .i64 (ns : Int), .int .i64 wo, .int .i64 qu, .int .i64 tr])] []) (by kernel_rfl) L (fun hHeld => ?_)
  generalize w2.drew = v3 at hHeld L ⊢
  refine wpAnyH_take (i := 0) (oi := ⟨some 60, _, _, _, _, _⟩) (v := .slice (some ⟨bb, oo, none⟩) m d) rfl (by kernel_rfl) (by kernel_rfl) (by kernel_rfl) (fun _ _ _ h => h) (Or.inl ⟨by rfl, ?_⟩) hHeld ?_
  · intro ww hS
    try dsimp only at hS
    go_simp
    try with_reducible rfl
    try omega
  try simp only [Act.put, List.setIfInBounds_toArray, List.set_cons_zero, List.set_cons_succ]
  refine wpAnyH_take (i := 1) (oi := ⟨some 61, _, _, _, _, _⟩) (v := .int .i64 (cl : Int)) rfl (by kernel_rfl) (by kernel_rfl) (by kernel_rfl) (fun _ _ _ h => h) (Or.inl ⟨by rfl, ?_⟩) hHeld ?_
  · intro ww hS
    try dsimp only at hS
    go_simp
    try with_reducible rfl
    try omega
  try simp only [Act.put, List.setIfInBounds_toArray, List.set_cons_zero, List.set_cons_succ]
  refine wpAnyH_take (i := 2) (oi := ⟨some 62, _, _, _, _, _⟩) (v := .pointer (some ⟨bb, oo + cl, none⟩)) rfl (by kernel_rfl) (by kernel_rfl) (by kernel_rfl) (fun _ _ _ h => h) (Or.inl ⟨by rfl, ?_⟩) hHeld ?_
  · intro ww hS
    try dsimp only at hS
    go_simp
    try with_reducible rfl
    try omega
  try simp only [Act.put, List.setIfInBounds_toArray, List.set_cons_zero, List.set_cons_succ]
  refine wpAnyH_take (i := 3) (oi := ⟨some 63, _, _, _, _, _⟩) (v := .int .u64 ((word : Nat) : Int)) rfl (by kernel_rfl) (by kernel_rfl) (by kernel_rfl) (fun _ _ _ h => h) (Or.inl ⟨by rfl, ?_⟩) hHeld ?_
  · intro ww hS
    try dsimp only at hS
    have X := (((hS)).K.cell (p := ⟨bb, oo + cl, none⟩) hbb).trans hcc
    go_simp
    try with_reducible rfl
    try omega
  try simp only [Act.put, List.setIfInBounds_toArray, List.set_cons_zero, List.set_cons_succ]
  refine wpAnyH_take (i := 4) (oi := ⟨some 64, _, _, _, _, _⟩) (v := .pointer (some ⟨gO, 13, none⟩)) rfl (by kernel_rfl) (by kernel_rfl) (by kernel_rfl) (fun _ _ _ h => h) (Or.inl ⟨by rfl, ?_⟩) hHeld ?_
  · intro ww hS
    try dsimp only at hS
    go_simp
    try with_reducible rfl
    try omega
  try simp only [Act.put, List.setIfInBounds_toArray, List.set_cons_zero, List.set_cons_succ]
  refine wpAnyH_take (i := 5) (oi := ⟨some 65, _, _, _, _, _⟩) (v := .int .u64 ((word : Nat) : Int)) rfl (by kernel_rfl) (by kernel_rfl) (by kernel_rfl) (fun _ _ _ h => h) (Or.inl ⟨by rfl, ?_⟩) hHeld ?_
  · intro ww hS
    try dsimp only at hS
    have O_13 := (hS).at_ 1 13 rfl (v := .int .u64 ((word : Nat) : Int)) rfl
    have O_z := (hS).lt 1 rfl
    go_simp
    try with_reducible rfl
    try omega
  try simp only [Act.put, List.setIfInBounds_toArray, List.set_cons_zero, List.set_cons_succ]
  refine wpAnyH_take (i := 6) (oi := ⟨some 66, _, _, _, _, _⟩) (v := .bool true) rfl (by kernel_rfl) (by kernel_rfl) (by kernel_rfl) (fun _ _ _ h => h) (Or.inl ⟨by rfl, ?_⟩) hHeld ?_
  · intro ww hS
    try dsimp only at hS
    go_simp
    try with_reducible rfl
    try omega
  try simp only [Act.put, List.setIfInBounds_toArray, List.set_cons_zero, List.set_cons_succ]
  refine wpAnyH_done (by kernel_rfl) ?_ _
  clear hHeld
  go_wp2_with fail
  have KS := L.K.size
  refine ((TSe _ (hU.below L.K)).out).mono ?_
  rintro e w4 ⟨gS, dS, rfl, U, hgS, K'⟩
  have Lb := L.lts
  replace L := L.over K'
  replace L := L.us_av (fun i b e b' o e' => by injection e' with e'; injection e' with e1; have := Lb i b e; omega) U
  clear Lb
  try dsimp only [lF, List.cons_append, List.nil_append] at L
  clear U
  have O_13 := L.at_ 1 13 rfl (v := .int .u64 ((word : Nat) : Int)) rfl
  have O_z := L.lt 1 rfl
  have O_f13 := L.fz 1 13 rfl
  go_upto_region 16 with fail
  clear O_13 O_z O_f13
  replace L := ((L.set 1 13 rfl (.int .u64 ((y : Nat) : Int))).is 1 (opv ⟨A0, n0, c0, A1, n1, c1, A2, n2, c2, A3, n3, c3⟩ ⟨kind, addr, err, aad, used, 5, shard, sought, (lf : Int), bit, y, true, 1, tries, item, stamp⟩) rfl)
  try dsimp only [nput] at L
  generalize (w4).setCell ⟨gO, 13, none⟩ (.int .u64 ((y : Nat) : Int)) = w5 at L ⊢
  have O_16 := L.at_ 1 16 rfl (v := .int .i64 1) rfl
  have O_z := L.lt 1 rfl
  go_upto_region 17 with fail
  clear O_16 O_z
  go_wp2_with (first | (refine wpList_load_row rfl 27 (.tmp 3) rfl gH rfl _ _ (0, 0) _ (L.bk_ 2 rfl) Tryz.underlying27 rfl cf_sz ?_) | (refine wpList_load_row rfl 40 (.tmp 5) rfl gO rfl _ _ (0, 0) _ (L.bk_ 1 rfl) Tryz.underlying40 rfl op_sz ?_))
  refine ((TG _).out).mono ?_
  rintro e w6 ⟨rfl, K'⟩
  replace L := L.over K'
  go_wp2_with (refine wpList_store_row rfl 40 (.tmp 7) (.tmp 88) rfl gR _ rfl rfl _ _ (L.bk_ 0 rfl) op_sz rfl (opv_one _ _) ?_)
  replace L := (L.row 0 rfl (opv ⟨A0, n0, c0, A1, n1, c1, A2, n2, c2, A3, n3, c3⟩ (ende (worded ⟨kind, addr, err, aad, used, 5, shard, sought, (lf : Int), bit, word, true, 1, tries, item, stamp⟩ y))))
  try dsimp only [nput] at L
  generalize (w6).setRow gR (opv ⟨A0, n0, c0, A1, n1, c1, A2, n2, c2, A3, n3, c3⟩ (ende (worded ⟨kind, addr, err, aad, used, 5, shard, sought, (lf : Int), bit, word, true, 1, tries, item, stamp⟩ y))) = w7 at L ⊢
  refine bodyPost_ret (v := .tuple #[.slice (some ⟨gS, 0, none⟩) m dS, .agg (opv ⟨A0, n0, c0, A1, n1, c1, A2, n2, c2, A3, n3, c3⟩ (ende (worded ⟨kind, addr, err, aad, used, 5, shard, sought, (lf : Int), bit, word, true, 1, tries, item, stamp⟩ y)))]) ?_ rfl ?_
  · exact results_tc (fn := Tryz.f39) Tryz.results39 _ _ gR _ _ (0, 0) _ rfl (L.bk_ 0 rfl) Tryz.underlying40 rfl op_sz
  exact ⟨_, _, rfl, L.us_ 0 rfl, (fun i hi _ b o e => by injection e with e; injection e with e1; omega), L.K⟩
set_option maxRecDepth 100000 in
set_option maxHeartbeats 2000000 in
theorem rmx_15na (ha : a < 4294967296) (hM : Much a p M) (hU : US w B m d ys) (hm : m = lv M + tv M + 1) (hk : s.kind ≠ 4) (hlf : s.leaf = (lf : Int)) (hlv : lf < lv M) (hw : s.word < 18446744073709551616) (hfu : s.full = true) (hcl : cl = lv M + tv M) (hb : b = lf / 64) (hat : s.at_ = 1) (hph : s.phase = 5) (heq : gt ys cl ≠ s.word) :
    Calls Tryz.prog 39 #[.agg #[.int .u32 (a : Int), .int .i64 p, .slice A n c, .int .i64 (ns : Int), .int .i64 wo, .int .i64 qu, .int .i64 tr], .slice B m d, .agg (opv h s)] w (RetRM (ende (worded s (setb s.word b))) h m ys B w) := by
  have hm9 := hM.most
  have hl3 := lv_le hm9
  have ht3 := tv_le hm9
  have hm6 : m ≤ 65536 := by omega
  have hb2 : b < 64 := by omega
  have hcm : cl < m := by omega
  have TT := fun w => Lib.hid (rtop_any M lf hM.most (by omega) w)
  have TR := fun w => Lib.hid (rroot_any M lf hM.most (by omega) w)
  rw [← hcl, ← hb] at TR
  generalize (lv M + lf / 64) = q1 at TT
  generalize lf % 64 = q2 at TT
  obtain ⟨bb, oo, hBe, hbb, hcc⟩ := hU.get hcm
  subst hBe
  have TL := fun w => Lib.hid (rclear_any s.word b hw hb2 w)
  have TSt := fun w => Lib.hid (rset_any s.word b hw hb2 w)
  have hy := setb_lt hw hb2
  obtain ⟨y, hy1⟩ : ∃ y, y = setb s.word b := ⟨_, rfl⟩
  rw [← hy1] at hy ⊢
  replace TSt := fun w => Lib.hid ((show setb s.word b = y from hy1.symm) ▸ (TSt w).out)
  generalize clrb s.word b = z at TL
  clear hy1
  obtain ⟨x, hx⟩ : ∃ x, x = gt ys cl := ⟨_, rfl⟩
  rw [← hx] at hcc heq
  have f1 : ((x : Int) == (s.word : Int)) = false := by simp; omega
  clear hx
  clear heq
  have TG := fun w => Lib.hid (rgoes_end0 (w := w) (h := h) (a := a) (p := p) (sh := (ns : Int)) (wo := wo) (qu := qu) (tr := tr) (A := A) (n := n) (c := c) (s := worded s y) (show (worded s _).kind ≠ 4 from hk))
  have hcm2 : (cl : Int) < (m : Int) := by omega
  clear hcl hb hm9 hl3 ht3 hm ha hk
  rcases s with ⟨kind, addr, err, aad, used, phase, shard, sought, leaf, bit, word, full, at_, tries, item, stamp⟩
  rcases h with ⟨A0, n0, c0, A1, n1, c1, A2, n2, c2, A3, n3, c3⟩
  try dsimp only at *
  subst hlf hat hph hfu
  go_enter Tryz.func39, Tryz.ntmps39
  go_upto_region 1 with (fail)
  have L := Loc.start w
  replace L := (((L).alloc #[.int .u32 (a : Int), .int .i64 p, .slice A n c, .int .i64 (ns : Int), .int .i64 wo, .int .i64 qu, .int .i64 tr] 27).alloc (opv ⟨A0, n0, c0, A1, n1, c1, A2, n2, c2, A3, n3, c3⟩ ⟨kind, addr, err, aad, used, 5, shard, sought, (lf : Int), bit, word, true, 1, tries, item, stamp⟩) 40).alloc #[.int .i64 0, .int .u32 0, .slice none 0 0, .int .i64 0, .int .u32 0, .bool false, .slice none 0 0, .slice none 0 0, .int .i64 0, .int .i64 0, .int .i64 0, .int .i64 0, .int .i64 0, .int .u64 0, .bool false, .slice none 0 0, .int .i64 0, .int .i64 0, .int .i64 0, .int .i64 0] 40
  try simp only [World.size_alloc] at L
  replace L := L.is 0 (opv hd0 sc0) rfl
  try dsimp only [nput] at L
  generalize (((w).alloc (.cells #[.int .u32 (a : Int), .int .i64 p, .slice A n c, .int .i64 (ns : Int), .int .i64 wo, .int .i64 qu, .int .i64 tr] 27)).alloc (.cells (opv ⟨A0, n0, c0, A1, n1, c1, A2, n2, c2, A3, n3, c3⟩ ⟨kind, addr, err, aad, used, 5, shard, sought, (lf : Int), bit, word, true, 1, tries, item, stamp⟩) 40)).alloc (.cells #[.int .i64 0, .int .u32 0, .slice none 0 0, .int .i64 0, .int .u32 0, .bool false, .slice none 0 0, .slice none 0 0, .int .i64 0, .int .i64 0, .int .i64 0, .int .i64 0, .int .i64 0, .int .u64 0, .bool false, .slice none 0 0, .int .i64 0, .int .i64 0, .int .i64 0, .int .i64 0] 40) = w1 at L ⊢
  generalize w.heap.size + 1 + 1 = gR at L ⊢
  generalize w.heap.size + 1 = gO at L ⊢
  generalize w.heap.size = gH at L ⊢
  have H_0 := L.at_ 2 0 rfl (v := .int .u32 (a : Int)) rfl
  have H_1 := L.at_ 2 1 rfl (v := .int .i64 p) rfl
  have H_z := L.lt 2 rfl
  go_wp2_with fail
  refine (rmany_yes hM).mono ?_
  rintro e w2 ⟨rfl, K'⟩
  clear H_0 H_1 H_z
  replace L := L.over K'
  have O_11 := L.at_ 1 11 rfl (v := .int .i64 (lf : Int)) rfl
  have O_z := L.lt 1 rfl
  go_wp2_with fail
  refine ((TT _).out).mono ?_
  rintro e w' ⟨rfl, rfl⟩
  clear O_11 O_z
  have O_16 := L.at_ 1 16 rfl (v := .int .i64 1) rfl
  have O_11 := L.at_ 1 11 rfl (v := .int .i64 (lf : Int)) rfl
  have O_z := L.lt 1 rfl
  go_wp2_with fail
  refine ((TR _).out).mono ?_
  rintro e w' ⟨rfl, rfl⟩
  clear O_16 O_11 O_z
  have O_8 := L.at_ 1 8 rfl (v := .int .i64 5) rfl
  have O_13 := L.at_ 1 13 rfl (v := .int .u64 ((word : Nat) : Int)) rfl
  have O_z := L.lt 1 rfl
  go_wp2_with fail
  refine ((TL _).out).mono ?_
  rintro e w' ⟨rfl, rfl⟩
  clear O_8 O_13 O_z
  have O_14 := L.at_ 1 14 rfl (v := .bool true) rfl
  have O_13 := L.at_ 1 13 rfl (v := .int .u64 ((word : Nat) : Int)) rfl
  have O_z := L.lt 1 rfl
  go_wp2_with fail
  refine ((TSt _).out).mono ?_
  rintro e w' ⟨rfl, rfl⟩
  clear O_14 O_13 O_z
  go_upto_region 13 with (fail)
  replace L := L.drew
  refine wp_region_held_drew (S := fun w' => Loc w w' [(gR, 40, opv hd0 sc0), (gO, 40, opv ⟨A0, n0, c0, A1, n1, c1, A2, n2, c2, A3, n3, c3⟩ ⟨kind, addr, err, aad, used, 5, shard, sought, (lf : Int), bit, word, true, 1, tries, item, stamp⟩), (gH, 27, #[.int .u32 (a : Int), .int .i64 p, .slice A n c, .int .i64 (ns : Int), .int .i64 wo, .int .i64 qu, .int .i64 tr])] []) (by kernel_rfl) L (fun hHeld => ?_)
  generalize w2.drew = v3 at hHeld L ⊢
  refine wpAnyH_take (i := 0) (oi := ⟨some 60, _, _, _, _, _⟩) (v := .slice (some ⟨bb, oo, none⟩) m d) rfl (by kernel_rfl) (by kernel_rfl) (by kernel_rfl) (fun _ _ _ h => h) (Or.inl ⟨by rfl, ?_⟩) hHeld ?_
  · intro ww hS
    try dsimp only at hS
    go_simp
    try with_reducible rfl
    try omega
  try simp only [Act.put, List.setIfInBounds_toArray, List.set_cons_zero, List.set_cons_succ]
  refine wpAnyH_take (i := 1) (oi := ⟨some 61, _, _, _, _, _⟩) (v := .int .i64 (cl : Int)) rfl (by kernel_rfl) (by kernel_rfl) (by kernel_rfl) (fun _ _ _ h => h) (Or.inl ⟨by rfl, ?_⟩) hHeld ?_
  · intro ww hS
    try dsimp only at hS
    go_simp
    try with_reducible rfl
    try omega
  try simp only [Act.put, List.setIfInBounds_toArray, List.set_cons_zero, List.set_cons_succ]
  refine wpAnyH_take (i := 2) (oi := ⟨some 62, _, _, _, _, _⟩) (v := .pointer (some ⟨bb, oo + cl, none⟩)) rfl (by kernel_rfl) (by kernel_rfl) (by kernel_rfl) (fun _ _ _ h => h) (Or.inl ⟨by rfl, ?_⟩) hHeld ?_
  · intro ww hS
    try dsimp only at hS
    go_simp
    try with_reducible rfl
    try omega
  try simp only [Act.put, List.setIfInBounds_toArray, List.set_cons_zero, List.set_cons_succ]
  refine wpAnyH_take (i := 3) (oi := ⟨some 63, _, _, _, _, _⟩) (v := .int .u64 ((x : Nat) : Int)) rfl (by kernel_rfl) (by kernel_rfl) (by kernel_rfl) (fun _ _ _ h => h) (Or.inl ⟨by rfl, ?_⟩) hHeld ?_
  · intro ww hS
    try dsimp only at hS
    have X := (((hS)).K.cell (p := ⟨bb, oo + cl, none⟩) hbb).trans hcc
    go_simp
    try with_reducible rfl
    try omega
  try simp only [Act.put, List.setIfInBounds_toArray, List.set_cons_zero, List.set_cons_succ]
  refine wpAnyH_take (i := 4) (oi := ⟨some 64, _, _, _, _, _⟩) (v := .pointer (some ⟨gO, 13, none⟩)) rfl (by kernel_rfl) (by kernel_rfl) (by kernel_rfl) (fun _ _ _ h => h) (Or.inl ⟨by rfl, ?_⟩) hHeld ?_
  · intro ww hS
    try dsimp only at hS
    go_simp
    try with_reducible rfl
    try omega
  try simp only [Act.put, List.setIfInBounds_toArray, List.set_cons_zero, List.set_cons_succ]
  refine wpAnyH_take (i := 5) (oi := ⟨some 65, _, _, _, _, _⟩) (v := .int .u64 ((word : Nat) : Int)) rfl (by kernel_rfl) (by kernel_rfl) (by kernel_rfl) (fun _ _ _ h => h) (Or.inl ⟨by rfl, ?_⟩) hHeld ?_
  · intro ww hS
    try dsimp only at hS
    have O_13 := (hS).at_ 1 13 rfl (v := .int .u64 ((word : Nat) : Int)) rfl
    have O_z := (hS).lt 1 rfl
    go_simp
    try with_reducible rfl
    try omega
  try simp only [Act.put, List.setIfInBounds_toArray, List.set_cons_zero, List.set_cons_succ]
  refine wpAnyH_take (i := 6) (oi := ⟨some 66, _, _, _, _, _⟩) (v := .bool false) rfl (by kernel_rfl) (by kernel_rfl) (by kernel_rfl) (fun _ _ _ h => h) (Or.inl ⟨by rfl, ?_⟩) hHeld ?_
  · intro ww hS
    try dsimp only at hS
    go_simp
    try with_reducible rfl
    try omega
  try simp only [Act.put, List.setIfInBounds_toArray, List.set_cons_zero, List.set_cons_succ]
  refine wpAnyH_done (by kernel_rfl) ?_ _
  clear hHeld
  have O_13 := L.at_ 1 13 rfl (v := .int .u64 ((word : Nat) : Int)) rfl
  have O_z := L.lt 1 rfl
  have O_f13 := L.fz 1 13 rfl
  go_upto_region 16 with fail
  clear O_13 O_z O_f13
  replace L := ((L.set 1 13 rfl (.int .u64 ((y : Nat) : Int))).is 1 (opv ⟨A0, n0, c0, A1, n1, c1, A2, n2, c2, A3, n3, c3⟩ ⟨kind, addr, err, aad, used, 5, shard, sought, (lf : Int), bit, y, true, 1, tries, item, stamp⟩) rfl)
  try dsimp only [nput] at L
  generalize (v3).setCell ⟨gO, 13, none⟩ (.int .u64 ((y : Nat) : Int)) = w4 at L ⊢
  have O_16 := L.at_ 1 16 rfl (v := .int .i64 1) rfl
  have O_z := L.lt 1 rfl
  go_upto_region 17 with fail
  clear O_16 O_z
  go_wp2_with (first | (refine wpList_load_row rfl 27 (.tmp 3) rfl gH rfl _ _ (0, 0) _ (L.bk_ 2 rfl) Tryz.underlying27 rfl cf_sz ?_) | (refine wpList_load_row rfl 40 (.tmp 5) rfl gO rfl _ _ (0, 0) _ (L.bk_ 1 rfl) Tryz.underlying40 rfl op_sz ?_))
  refine ((TG _).out).mono ?_
  rintro e w5 ⟨rfl, K'⟩
  replace L := L.over K'
  go_wp2_with (refine wpList_store_row rfl 40 (.tmp 7) (.tmp 88) rfl gR _ rfl rfl _ _ (L.bk_ 0 rfl) op_sz rfl (opv_one _ _) ?_)
  replace L := (L.row 0 rfl (opv ⟨A0, n0, c0, A1, n1, c1, A2, n2, c2, A3, n3, c3⟩ (ende (worded ⟨kind, addr, err, aad, used, 5, shard, sought, (lf : Int), bit, word, true, 1, tries, item, stamp⟩ y))))
  try dsimp only [nput] at L
  generalize (w5).setRow gR (opv ⟨A0, n0, c0, A1, n1, c1, A2, n2, c2, A3, n3, c3⟩ (ende (worded ⟨kind, addr, err, aad, used, 5, shard, sought, (lf : Int), bit, word, true, 1, tries, item, stamp⟩ y))) = w6 at L ⊢
  refine bodyPost_ret (v := .tuple #[.slice (some ⟨bb, oo, none⟩) m d, .agg (opv ⟨A0, n0, c0, A1, n1, c1, A2, n2, c2, A3, n3, c3⟩ (ende (worded ⟨kind, addr, err, aad, used, 5, shard, sought, (lf : Int), bit, word, true, 1, tries, item, stamp⟩ y)))]) ?_ rfl ?_
  · exact results_tc (fn := Tryz.f39) Tryz.results39 _ _ gR _ _ (0, 0) _ rfl (L.bk_ 0 rfl) Tryz.underlying40 rfl op_sz
  exact ⟨_, _, rfl, hU.below L.K, fun k _ h => h, L.K⟩
theorem rmx_any (ha : a < 4294967296) (hM : Much a p M) (hU : US w B m d ys) (hm : m = lv M + tv M + 1) (hk : s.kind ≠ 4) (hlf : s.leaf = (lf : Int)) (hlv : lf < lv M) (hw : s.word < 18446744073709551616) (hfu : s.full = true) (hat : s.at_ = 0 ∨ s.at_ = 1) (hph : s.phase = 4 ∨ s.phase = 5) :
    Calls Tryz.prog 39 #[.agg #[.int .u32 (a : Int), .int .i64 p, .slice A n c, .int .i64 (ns : Int), .int .i64 wo, .int .i64 qu, .int .i64 tr], .slice B m d, .agg (opv h s)] w (RetRM (stO a M 0 [] ys s) h m (stC M ys s) B w) := by
  have dn1 : ∀ x, (s.at_ = 1 ∨ x ≠ 18446744073709551615) → dn a 0 [] (worded s x) = ende (worded s x) := fun x hx => by
    unfold dn; rw [if_pos (by unfold ends_; simp [worded, hfu]; omega)]; exact gon_no (show (worded s x).kind ≠ 4 from hk)
  have dn0 : ∀ x, s.at_ = 0 → x = 18446744073709551615 → dn a 0 [] (worded s x) = root_ (worded s x) := fun x h0 hx => by
    unfold dn; rw [if_neg (by unfold ends_; simp [worded, hfu, h0, hx])]
  have hmk : mkd s.word (bt s) s.full = setb s.word (bt s) := by unfold mkd; rw [if_pos hfu]
  have hlt : s.leaf.toNat = lf := by omega
  rcases hat with hat | hat
  · have hcl : hcel M s = lv M + lf / 64 := by unfold hcel; rw [if_pos hat, hlt]
    have hb : bt s = lf % 64 := by unfold bt; rw [if_pos hat, hlt]
    rcases hph with hph | hph
    · unfold stO stC lk; rw [if_pos hph, if_pos hph, hfu]
      cases hbit : (gt ys (hcel M s)).testBit (bt s) with
      | false => rw [if_neg (by simp)]; exact rmx_04n ha hM hU hm hk hlf hlv hw hfu hcl hb hat hph hbit
      | true =>
        rw [if_pos rfl]
        by_cases hone : gt ys (hcel M s) = 18446744073709551615
        · rw [dn0 _ hat hone]; exact rmx_04eb ha hM hU hm hk hlf hlv hw hfu hcl hb hat hph hbit hone
        · rw [dn1 _ (.inr hone)]; exact rmx_04ea ha hM hU hm hk hlf hlv hw hfu hcl hb hat hph hbit hone
    · unfold stO stC; rw [if_neg (by omega), if_neg (by omega), hmk]
      by_cases heq : gt ys (hcel M s) = s.word
      · rw [if_pos heq]
        by_cases hone : setb s.word (bt s) = 18446744073709551615
        · rw [dn0 _ hat hone]; exact rmx_05yb ha hM hU hm hk hlf hlv hw hfu hcl hb hat hph heq hone
        · rw [dn1 _ (.inr hone)]; exact rmx_05ya ha hM hU hm hk hlf hlv hw hfu hcl hb hat hph heq hone
      · rw [if_neg heq]
        by_cases hone : setb s.word (bt s) = 18446744073709551615
        · rw [dn0 _ hat hone]; exact rmx_05nb ha hM hU hm hk hlf hlv hw hfu hcl hb hat hph heq hone
        · rw [dn1 _ (.inr hone)]; exact rmx_05na ha hM hU hm hk hlf hlv hw hfu hcl hb hat hph heq hone
  · have hcl : hcel M s = lv M + tv M := by unfold hcel; rw [if_neg (by omega)]
    have hb : bt s = lf / 64 := by unfold bt; rw [if_neg (by omega), hlt]
    rcases hph with hph | hph
    · unfold stO stC lk; rw [if_pos hph, if_pos hph, hfu]
      cases hbit : (gt ys (hcel M s)).testBit (bt s) with
      | false => rw [if_neg (by simp)]; exact rmx_14n ha hM hU hm hk hlf hlv hw hfu hcl hb hat hph hbit
      | true => rw [if_pos rfl, dn1 _ (.inl hat)]; exact rmx_14ea ha hM hU hm hk hlf hlv hw hfu hcl hb hat hph hbit
    · unfold stO stC; rw [if_neg (by omega), if_neg (by omega), hmk]
      by_cases heq : gt ys (hcel M s) = s.word
      · rw [if_pos heq, dn1 _ (.inl hat)]; exact rmx_15ya ha hM hU hm hk hlf hlv hw hfu hcl hb hat hph heq
      · rw [if_neg heq, dn1 _ (.inl hat)]; exact rmx_15na ha hM hU hm hk hlf hlv hw hfu hcl hb hat hph heq
end
end Go.Proofs.YtacgjaohfcoigaaGreat

/-
  What the document's Step of layer 13 answers of an exact grant that claims. Conditions: a block that may be, as many cells as there are, a leaf and a bit that there are.
-/
namespace Go.Proofs.YtacgjaohfcoigaaGreat
set_option maxRecDepth 100000
set_option maxRecDepth 100000
open Go.RowKit
set_option linter.unusedVariables false
section
variable {w w1 : World} {lo a m d M ns N hd k t tt lf cl b x : Nat} {p wo qu tr : Int} {A B : Option Addr} {n c : Nat} {zs : List Int} {sn ys : List Nat} {h : Hd} {s : Sc}
set_option maxRecDepth 100000 in
set_option maxHeartbeats 2000000 in
theorem rcx_not (ha : a < 4294967296) (hM : Much a p M) (hU : US w B m d ys) (hm : m = lv M + tv M + 1) (hk : s.kind = 2) (hlf : s.leaf = (lf : Int)) (hlv : lf < lv M) (hph : s.phase = 3) (hne : gt ys lf ≠ s.word) :
    Calls Tryz.prog 38 #[.agg #[.int .u32 (a : Int), .int .i64 p, .slice A n c, .int .i64 (ns : Int), .int .i64 wo, .int .i64 qu, .int .i64 tr], .slice B m d, .agg (opv h s)] w (RetXR (againS s) h m ys false B w) := by
  have hm6 : m ≤ 65536 := by have := lv_le hM.most; have := tv_le hM.most; omega
  have hcm : lf < m := by omega
  obtain ⟨bb, oo, hBe, hbb, hcc⟩ := hU.get hcm
  subst hBe
  have hcm2 : (lf : Int) < (m : Int) := by omega
  have hx64 := gt_lt hU.fit lf
  obtain ⟨x, hx⟩ : ∃ x, x = gt ys lf := ⟨_, rfl⟩
  rw [← hx] at hcc hne
  have f1 : ((x : Int) != (s.word : Int)) = true := by simp; omega
  have hag : againS s = ⟨s.kind, s.addr, s.err, s.aad, s.used, 8, s.shard, s.sought, s.leaf, s.bit, 0, s.full, s.at_, s.tries, s.item, s.stamp⟩ := by unfold againS; rw [if_neg (by omega)]
  rw [hag]
  clear hag hne hx hm hm6 hx64
  rcases s with ⟨kind, addr, err, aad, used, phase, shard, sought, leaf, bit, word, full, at_, tries, item, stamp⟩
  rcases h with ⟨A0, n0, c0, A1, n1, c1, A2, n2, c2, A3, n3, c3⟩
  try dsimp only at *
  subst hk hlf hph
  go_enter Tryz.func38, Tryz.ntmps38
  go_upto_region 1 with (fail)
  have L := Loc.start w
  replace L := (((L).alloc #[.int .u32 (a : Int), .int .i64 p, .slice A n c, .int .i64 (ns : Int), .int .i64 wo, .int .i64 qu, .int .i64 tr] 27).alloc (opv ⟨A0, n0, c0, A1, n1, c1, A2, n2, c2, A3, n3, c3⟩ ⟨2, addr, err, aad, used, 3, shard, sought, (lf : Int), bit, word, full, at_, tries, item, stamp⟩) 40).alloc #[.int .i64 0, .int .u32 0, .slice none 0 0, .int .i64 0, .int .u32 0, .bool false, .slice none 0 0, .slice none 0 0, .int .i64 0, .int .i64 0, .int .i64 0, .int .i64 0, .int .i64 0, .int .u64 0, .bool false, .slice none 0 0, .int .i64 0, .int .i64 0, .int .i64 0, .int .i64 0] 40
  try simp only [World.size_alloc] at L
  replace L := L.is 0 (opv hd0 sc0) rfl
  try dsimp only [nput] at L
  generalize (((w).alloc (.cells #[.int .u32 (a : Int), .int .i64 p, .slice A n c, .int .i64 (ns : Int), .int .i64 wo, .int .i64 qu, .int .i64 tr] 27)).alloc (.cells (opv ⟨A0, n0, c0, A1, n1, c1, A2, n2, c2, A3, n3, c3⟩ ⟨2, addr, err, aad, used, 3, shard, sought, (lf : Int), bit, word, full, at_, tries, item, stamp⟩) 40)).alloc (.cells #[.int .i64 0, .int .u32 0, .slice none 0 0, .int .i64 0, .int .u32 0, .bool false, .slice none 0 0, .slice none 0 0, .int .i64 0, .int .i64 0, .int .i64 0, .int .i64 0, .int .i64 0, .int .u64 0, .bool false, .slice none 0 0, .int .i64 0, .int .i64 0, .int .i64 0, .int .i64 0] 40) = w1 at L ⊢
  generalize w.heap.size + 1 + 1 = gR at L ⊢
  generalize w.heap.size + 1 = gO at L ⊢
  generalize w.heap.size = gH at L ⊢
  have O_8 := L.at_ 1 8 rfl (v := .int .i64 3) rfl
  have O_z := L.lt 1 rfl
  go_upto_region 16 with fail
  clear O_8 O_z
  replace L := L.drew
  refine wp_region_held_drew (S := fun w' => Loc w w' [(gR, 40, opv hd0 sc0), (gO, 40, opv ⟨A0, n0, c0, A1, n1, c1, A2, n2, c2, A3, n3, c3⟩ ⟨2, addr, err, aad, used, 3, shard, sought, (lf : Int), bit, word, full, at_, tries, item, stamp⟩), (gH, 27, #[.int .u32 (a : Int), .int .i64 p, .slice A n c, .int .i64 (ns : Int), .int .i64 wo, .int .i64 qu, .int .i64 tr])] []) (by kernel_rfl) L (fun hHeld => ?_)
  generalize w1.drew = v2 at hHeld L ⊢
  refine wpAnyH_take (i := 0) (oi := ⟨some 53, _, _, _, _, _⟩) (v := .slice (some ⟨bb, oo, none⟩) m d) rfl (by kernel_rfl) (by kernel_rfl) (by kernel_rfl) (fun _ _ _ h => h) (Or.inl ⟨by rfl, ?_⟩) hHeld ?_
  · intro ww hS
    try dsimp only at hS
    go_simp
    try with_reducible rfl
    try omega
  try simp only [Act.put, List.setIfInBounds_toArray, List.set_cons_zero, List.set_cons_succ]
  refine wpAnyH_take (i := 1) (oi := ⟨some 54, _, _, _, _, _⟩) (v := .pointer (some ⟨gO, 11, none⟩)) rfl (by kernel_rfl) (by kernel_rfl) (by kernel_rfl) (fun _ _ _ h => h) (Or.inl ⟨by rfl, ?_⟩) hHeld ?_
  · intro ww hS
    try dsimp only at hS
    go_simp
    try with_reducible rfl
    try omega
  try simp only [Act.put, List.setIfInBounds_toArray, List.set_cons_zero, List.set_cons_succ]
  refine wpAnyH_take (i := 2) (oi := ⟨some 55, _, _, _, _, _⟩) (v := .int .i64 (lf : Int)) rfl (by kernel_rfl) (by kernel_rfl) (by kernel_rfl) (fun _ _ _ h => h) (Or.inl ⟨by rfl, ?_⟩) hHeld ?_
  · intro ww hS
    try dsimp only at hS
    have O_11 := (hS).at_ 1 11 rfl (v := .int .i64 (lf : Int)) rfl
    have O_z := (hS).lt 1 rfl
    go_simp
    try with_reducible rfl
    try omega
  try simp only [Act.put, List.setIfInBounds_toArray, List.set_cons_zero, List.set_cons_succ]
  refine wpAnyH_take (i := 3) (oi := ⟨some 56, _, _, _, _, _⟩) (v := .pointer (some ⟨bb, oo + lf, none⟩)) rfl (by kernel_rfl) (by kernel_rfl) (by kernel_rfl) (fun _ _ _ h => h) (Or.inl ⟨by rfl, ?_⟩) hHeld ?_
  · intro ww hS
    try dsimp only at hS
    go_simp
    try with_reducible rfl
    try omega
  try simp only [Act.put, List.setIfInBounds_toArray, List.set_cons_zero, List.set_cons_succ]
  refine wpAnyH_take (i := 4) (oi := ⟨some 57, _, _, _, _, _⟩) (v := .int .u64 ((x : Nat) : Int)) rfl (by kernel_rfl) (by kernel_rfl) (by kernel_rfl) (fun _ _ _ h => h) (Or.inl ⟨by rfl, ?_⟩) hHeld ?_
  · intro ww hS
    try dsimp only at hS
    have X := (((hS)).K.cell (p := ⟨bb, oo + lf, none⟩) hbb).trans hcc
    go_simp
    try with_reducible rfl
    try omega
  try simp only [Act.put, List.setIfInBounds_toArray, List.set_cons_zero, List.set_cons_succ]
  refine wpAnyH_take (i := 5) (oi := ⟨some 58, _, _, _, _, _⟩) (v := .pointer (some ⟨gO, 13, none⟩)) rfl (by kernel_rfl) (by kernel_rfl) (by kernel_rfl) (fun _ _ _ h => h) (Or.inl ⟨by rfl, ?_⟩) hHeld ?_
  · intro ww hS
    try dsimp only at hS
    go_simp
    try with_reducible rfl
    try omega
  try simp only [Act.put, List.setIfInBounds_toArray, List.set_cons_zero, List.set_cons_succ]
  refine wpAnyH_take (i := 6) (oi := ⟨some 59, _, _, _, _, _⟩) (v := .int .u64 ((word : Nat) : Int)) rfl (by kernel_rfl) (by kernel_rfl) (by kernel_rfl) (fun _ _ _ h => h) (Or.inl ⟨by rfl, ?_⟩) hHeld ?_
  · intro ww hS
    try dsimp only at hS
    have O_13 := (hS).at_ 1 13 rfl (v := .int .u64 ((word : Nat) : Int)) rfl
    have O_z := (hS).lt 1 rfl
    go_simp
    try with_reducible rfl
    try omega
  try simp only [Act.put, List.setIfInBounds_toArray, List.set_cons_zero, List.set_cons_succ]
  refine wpAnyH_take (i := 7) (oi := ⟨some 60, _, _, _, _, _⟩) (v := .bool true) rfl (by kernel_rfl) (by kernel_rfl) (by kernel_rfl) (fun _ _ _ h => h) (Or.inl ⟨by rfl, ?_⟩) hHeld ?_
  · intro ww hS
    try dsimp only at hS
    go_simp
    try with_reducible rfl
    try omega
  try simp only [Act.put, List.setIfInBounds_toArray, List.set_cons_zero, List.set_cons_succ]
  refine wpAnyH_done (by kernel_rfl) ?_ _
  clear hHeld
  have O_13 := L.at_ 1 13 rfl (v := .int .u64 ((word : Nat) : Int)) rfl
  have O_z := L.lt 1 rfl
  have O_f13 := L.fz 1 13 rfl
  go_upto_region 18 with fail
  clear O_13 O_z O_f13
  replace L := ((L.set 1 13 rfl (.int .u64 0)).is 1 (opv ⟨A0, n0, c0, A1, n1, c1, A2, n2, c2, A3, n3, c3⟩ ⟨2, addr, err, aad, used, 3, shard, sought, (lf : Int), bit, 0, full, at_, tries, item, stamp⟩) rfl)
  try dsimp only [nput] at L
  generalize (v2).setCell ⟨gO, 13, none⟩ (.int .u64 0) = w3 at L ⊢
  have O_8 := L.at_ 1 8 rfl (v := .int .i64 3) rfl
  have O_z := L.lt 1 rfl
  have O_f8 := L.fz 1 8 rfl
  go_upto_region 19 with fail
  clear O_8 O_z O_f8
  replace L := ((L.set 1 8 rfl (.int .i64 8)).is 1 (opv ⟨A0, n0, c0, A1, n1, c1, A2, n2, c2, A3, n3, c3⟩ ⟨2, addr, err, aad, used, 8, shard, sought, (lf : Int), bit, 0, full, at_, tries, item, stamp⟩) rfl)
  try dsimp only [nput] at L
  generalize (w3).setCell ⟨gO, 8, none⟩ (.int .i64 8) = w4 at L ⊢
  have O_0 := L.at_ 1 0 rfl (v := .int .i64 2) rfl
  have O_z := L.lt 1 rfl
  go_upto_region 21 with fail
  clear O_0 O_z
  replace L := L.drew
  refine wp_region_held_drew (S := fun w' => ∃ v_R : Array Value, v_R.size = 20 ∧ Loc w w' [(gR, 40, v_R), (gO, 40, opv ⟨A0, n0, c0, A1, n1, c1, A2, n2, c2, A3, n3, c3⟩ ⟨2, addr, err, aad, used, 8, shard, sought, (lf : Int), bit, 0, full, at_, tries, item, stamp⟩), (gH, 27, #[.int .u32 (a : Int), .int .i64 p, .slice A n c, .int .i64 (ns : Int), .int .i64 wo, .int .i64 qu, .int .i64 tr])] []) (by kernel_rfl) (⟨_, rfl, L⟩) (fun hHeld => ?_)
  generalize w4.drew = v5 at hHeld L ⊢
  refine wpAnyH_take (i := 0) (oi := ⟨some 68, _, _, _, _, _⟩) (v := .slice (some ⟨bb, oo, none⟩) m d) rfl (by kernel_rfl) (by kernel_rfl) (by kernel_rfl) (fun _ _ _ h => h) (Or.inl ⟨by rfl, ?_⟩) hHeld ?_
  · intro ww hS
    try dsimp only at hS
    go_simp
    try with_reducible rfl
    try omega
  try simp only [Act.put, List.setIfInBounds_toArray, List.set_cons_zero, List.set_cons_succ]
  refine wpAnyH_take (i := 1) (oi := ⟨some 69, _, _, _, _, _⟩) (v := .agg (opv ⟨A0, n0, c0, A1, n1, c1, A2, n2, c2, A3, n3, c3⟩ ⟨2, addr, err, aad, used, 8, shard, sought, (lf : Int), bit, 0, full, at_, tries, item, stamp⟩)) rfl (by kernel_rfl) (by kernel_rfl) (by kernel_rfl) (fun _ _ _ h => h) (yieldsIf_load_row (by rfl) 40 (.tmp 5) rfl gO rfl 40 _ (0, 0) _ (fun _ hS => ((hS.choose_spec.2).bk_ 1 rfl)) Tryz.underlying40 rfl op_sz) hHeld ?_
  try simp only [Act.put, List.setIfInBounds_toArray, List.set_cons_zero, List.set_cons_succ]
  refine wpAnyH_take (i := 2) (oi := ⟨some 6, _, _, _, _, _⟩) (v := .slice (some ⟨bb, oo, none⟩) m d) rfl (by kernel_rfl) (by kernel_rfl) (by kernel_rfl) (fun _ _ _ h => h) (Or.inl ⟨by rfl, ?_⟩) hHeld ?_
  · intro ww hS
    try dsimp only at hS
    go_simp
    try with_reducible rfl
    try omega
  try simp only [Act.put, List.setIfInBounds_toArray, List.set_cons_zero, List.set_cons_succ]
  refine wpAnyH_ready (rs := [3]) (by kernel_rfl) (by simp) ?_
  refine AllReadyH.cons (o := ⟨none, _, _, _, _, _⟩) rfl (fun K0 hK => ?_) AllReadyH.nil
  rw [if_pos (by rfl)]
  refine wp_store_row 40 (.tmp 7) (.tmp 69) rfl gR _ rfl rfl _ _ (L.bk_ 0 rfl) op_sz rfl (opv_one _ _) ?_
  replace L := L.row 0 rfl (opv ⟨A0, n0, c0, A1, n1, c1, A2, n2, c2, A3, n3, c3⟩ ⟨2, addr, err, aad, used, 8, shard, sought, (lf : Int), bit, 0, full, at_, tries, item, stamp⟩)
  try dsimp only [nput] at L
  refine hK.out _ _ ⟨_, rfl, L⟩ (fun hHeld' => ?_)
  clear hHeld hK K0
  have hHeld := hHeld'
  clear hHeld'
  generalize v5.setRow gR (opv ⟨A0, n0, c0, A1, n1, c1, A2, n2, c2, A3, n3, c3⟩ ⟨2, addr, err, aad, used, 8, shard, sought, (lf : Int), bit, 0, full, at_, tries, item, stamp⟩) = v6 at hHeld L ⊢
  try simp only [Act.put]
  refine wpAnyH_take (i := 4) (oi := ⟨some 8, _, _, _, _, _⟩) (v := .bool false) rfl (by kernel_rfl) (by kernel_rfl) (by kernel_rfl) (fun _ _ _ h => h) (Or.inl ⟨by rfl, ?_⟩) hHeld ?_
  · intro ww hS
    try dsimp only at hS
    go_simp
    try with_reducible rfl
    try omega
  try simp only [Act.put, List.setIfInBounds_toArray, List.set_cons_zero, List.set_cons_succ]
  refine wpAnyH_done (by kernel_rfl) ?_ _
  clear hHeld
  go_wp2
  refine bodyPost_ret (v := .tuple #[.slice (some ⟨bb, oo, none⟩) m d, .agg (opv ⟨A0, n0, c0, A1, n1, c1, A2, n2, c2, A3, n3, c3⟩ ⟨2, addr, err, aad, used, 8, shard, sought, (lf : Int), bit, 0, full, at_, tries, item, stamp⟩), .bool false]) ?_ rfl ?_
  · exact results_tct (fn := Tryz.f38) Tryz.results38 _ _ gR _ _ (0, 0) _ rfl (L.bk_ 0 rfl) Tryz.underlying40 rfl op_sz
  exact ⟨_, _, rfl, hU.below L.K, fun k _ h => h, L.K⟩
set_option maxRecDepth 100000 in
set_option maxHeartbeats 2000000 in
theorem rcx_full (ha : a < 4294967296) (hM : Much a p M) (hU : US w B m d ys) (hm : m = lv M + tv M + 1) (hk : s.kind = 2) (hlf : s.leaf = (lf : Int)) (hlv : lf < lv M) (hph : s.phase = 3) (hbt : s.bit = (b : Int)) (hb32 : b < 32) (hof : 32 * lf + b < M) (hw : s.word < 18446744073709551616) (hne : gt ys lf = s.word) (hfl : fl (clm s.word b) = true) :
    Calls Tryz.prog 38 #[.agg #[.int .u32 (a : Int), .int .i64 p, .slice A n c, .int .i64 (ns : Int), .int .i64 wo, .int .i64 qu, .int .i64 tr], .slice B m d, .agg (opv h s)] w (RetXR (fullS (adS s (adr a lf b))) h m (ys.set lf (clm s.word b)) true B w) := by
  have hm6 : m ≤ 65536 := by have := lv_le hM.most; have := tv_le hM.most; omega
  have hcm : lf < m := by omega
  obtain ⟨bb, oo, hBe, hbb, hcc⟩ := hU.get hcm
  subst hBe
  have hcm2 : (lf : Int) < (m : Int) := by omega
  have hx64 := gt_lt hU.fit lf
  rw [hne] at hcc
  have f1 : ((s.word : Int) != (s.word : Int)) = false := by simp
  have hbn : s.bit = (b : Int) := hbt
  have TC := fun w => Lib.hid (rclaim_any s.word b hw (by omega) w)
  have hy := clm_lt s.word b
  have TFu := fun w => Lib.hid (rfull_any (clm s.word b) hy w)
  rw [hfl] at TFu
  obtain ⟨y, hy1⟩ : ∃ y, y = clm s.word b := ⟨_, rfl⟩
  simp only [← hy1] at TC TFu ⊢
  rw [← hy1] at hy
  have TSe : ∀ w, US w (some ⟨bb, oo, none⟩) m d ys → Hid (Calls Tryz.prog 33 #[.slice (some ⟨bb, oo, none⟩) m d, .int .i64 (lf : Nat), .int .u64 (y : Nat)] w (RetSM m (ys.set lf y) w)) := fun w U => by have := crset_new U (lf : Int) hm6 hy; rw [stI_nat] at this; exact this
  obtain ⟨z, hz⟩ : ∃ z, z = adr a lf b := ⟨_, rfl⟩
  rw [← hz]
  have hfit := hM.fits ha
  have hz2 : z = a + (32 * lf + b) := by rw [hz]; unfold adr; rw [Nat.mod_eq_of_lt (by omega)]
  obtain ⟨m32, h32⟩ : ∃ x, x = 32 * lf := ⟨_, rfl⟩
  obtain ⟨q, hq⟩ : ∃ x, x = m32 + b := ⟨_, rfl⟩
  have g1 : (32 : Int) * (lf : Int) = (m32 : Int) := by omega
  have g2 : (m32 : Int) + (b : Int) = (q : Int) := by omega
  have g3 : (a : Int) + (q : Int) = (z : Int) := by omega
  have w1 : IntKind.i64.wrap (m32 : Int) = (m32 : Int) := IntWalk.i64_in _ (by omega)
  have w2 : IntKind.i64.wrap (q : Int) = (q : Int) := IntWalk.i64_in _ (by omega)
  have w3 : IntKind.u32.wrap (q : Int) = (q : Int) := IntWalk.u32_in _ (by omega)
  have w4 : IntKind.u32.wrap (z : Int) = (z : Int) := IntWalk.u32_in _ (by omega)
  clear hz hz2 h32 hq hy1 hfl hne hm hm6 hx64 hfit hw hbt ha hof
  rcases s with ⟨kind, addr, err, aad, used, phase, shard, sought, leaf, bit, word, full, at_, tries, item, stamp⟩
  rcases h with ⟨A0, n0, c0, A1, n1, c1, A2, n2, c2, A3, n3, c3⟩
  try dsimp only at *
  subst hk hlf hph hbn
  go_enter Tryz.func38, Tryz.ntmps38
  go_upto_region 1 with (fail)
  have L := Loc.start w
  replace L := (((L).alloc #[.int .u32 (a : Int), .int .i64 p, .slice A n c, .int .i64 (ns : Int), .int .i64 wo, .int .i64 qu, .int .i64 tr] 27).alloc (opv ⟨A0, n0, c0, A1, n1, c1, A2, n2, c2, A3, n3, c3⟩ ⟨2, addr, err, aad, used, 3, shard, sought, (lf : Int), (b : Int), word, full, at_, tries, item, stamp⟩) 40).alloc #[.int .i64 0, .int .u32 0, .slice none 0 0, .int .i64 0, .int .u32 0, .bool false, .slice none 0 0, .slice none 0 0, .int .i64 0, .int .i64 0, .int .i64 0, .int .i64 0, .int .i64 0, .int .u64 0, .bool false, .slice none 0 0, .int .i64 0, .int .i64 0, .int .i64 0, .int .i64 0] 40
  try simp only [World.size_alloc] at L
  replace L := L.is 0 (opv hd0 sc0) rfl
  try dsimp only [nput] at L
  generalize (((w).alloc (.cells #[.int .u32 (a : Int), .int .i64 p, .slice A n c, .int .i64 (ns : Int), .int .i64 wo, .int .i64 qu, .int .i64 tr] 27)).alloc (.cells (opv ⟨A0, n0, c0, A1, n1, c1, A2, n2, c2, A3, n3, c3⟩ ⟨2, addr, err, aad, used, 3, shard, sought, (lf : Int), (b : Int), word, full, at_, tries, item, stamp⟩) 40)).alloc (.cells #[.int .i64 0, .int .u32 0, .slice none 0 0, .int .i64 0, .int .u32 0, .bool false, .slice none 0 0, .slice none 0 0, .int .i64 0, .int .i64 0, .int .i64 0, .int .i64 0, .int .i64 0, .int .u64 0, .bool false, .slice none 0 0, .int .i64 0, .int .i64 0, .int .i64 0, .int .i64 0] 40) = w1 at L ⊢
  generalize w.heap.size + 1 + 1 = gR at L ⊢
  generalize w.heap.size + 1 = gO at L ⊢
  generalize w.heap.size = gH at L ⊢
  have O_8 := L.at_ 1 8 rfl (v := .int .i64 3) rfl
  have O_z := L.lt 1 rfl
  go_upto_region 16 with fail
  clear O_8 O_z
  replace L := L.drew
  refine wp_region_held_drew (S := fun w' => Loc w w' [(gR, 40, opv hd0 sc0), (gO, 40, opv ⟨A0, n0, c0, A1, n1, c1, A2, n2, c2, A3, n3, c3⟩ ⟨2, addr, err, aad, used, 3, shard, sought, (lf : Int), (b : Int), word, full, at_, tries, item, stamp⟩), (gH, 27, #[.int .u32 (a : Int), .int .i64 p, .slice A n c, .int .i64 (ns : Int), .int .i64 wo, .int .i64 qu, .int .i64 tr])] []) (by kernel_rfl) L (fun hHeld => ?_)
  generalize w1.drew = v2 at hHeld L ⊢
  refine wpAnyH_take (i := 0) (oi := ⟨some 53, _, _, _, _, _⟩) (v := .slice (some ⟨bb, oo, none⟩) m d) rfl (by kernel_rfl) (by kernel_rfl) (by kernel_rfl) (fun _ _ _ h => h) (Or.inl ⟨by rfl, ?_⟩) hHeld ?_
  · intro ww hS
    try dsimp only at hS
    go_simp
    try with_reducible rfl
    try omega
  try simp only [Act.put, List.setIfInBounds_toArray, List.set_cons_zero, List.set_cons_succ]
  refine wpAnyH_take (i := 1) (oi := ⟨some 54, _, _, _, _, _⟩) (v := .pointer (some ⟨gO, 11, none⟩)) rfl (by kernel_rfl) (by kernel_rfl) (by kernel_rfl) (fun _ _ _ h => h) (Or.inl ⟨by rfl, ?_⟩) hHeld ?_
  · intro ww hS
    try dsimp only at hS
    go_simp
    try with_reducible rfl
    try omega
  try simp only [Act.put, List.setIfInBounds_toArray, List.set_cons_zero, List.set_cons_succ]
  refine wpAnyH_take (i := 2) (oi := ⟨some 55, _, _, _, _, _⟩) (v := .int .i64 (lf : Int)) rfl (by kernel_rfl) (by kernel_rfl) (by kernel_rfl) (fun _ _ _ h => h) (Or.inl ⟨by rfl, ?_⟩) hHeld ?_
  · intro ww hS
    try dsimp only at hS
    have O_11 := (hS).at_ 1 11 rfl (v := .int .i64 (lf : Int)) rfl
    have O_z := (hS).lt 1 rfl
    go_simp
    try with_reducible rfl
    try omega
  try simp only [Act.put, List.setIfInBounds_toArray, List.set_cons_zero, List.set_cons_succ]
  refine wpAnyH_take (i := 3) (oi := ⟨some 56, _, _, _, _, _⟩) (v := .pointer (some ⟨bb, oo + lf, none⟩)) rfl (by kernel_rfl) (by kernel_rfl) (by kernel_rfl) (fun _ _ _ h => h) (Or.inl ⟨by rfl, ?_⟩) hHeld ?_
  · intro ww hS
    try dsimp only at hS
    go_simp
    try with_reducible rfl
    try omega
  try simp only [Act.put, List.setIfInBounds_toArray, List.set_cons_zero, List.set_cons_succ]
  refine wpAnyH_take (i := 4) (oi := ⟨some 57, _, _, _, _, _⟩) (v := .int .u64 ((word : Nat) : Int)) rfl (by kernel_rfl) (by kernel_rfl) (by kernel_rfl) (fun _ _ _ h => h) (Or.inl ⟨by rfl, ?_⟩) hHeld ?_
  · intro ww hS
    try dsimp only at hS
    have X := (((hS)).K.cell (p := ⟨bb, oo + lf, none⟩) hbb).trans hcc
    go_simp
    try with_reducible rfl
    try omega
  try simp only [Act.put, List.setIfInBounds_toArray, List.set_cons_zero, List.set_cons_succ]
  refine wpAnyH_take (i := 5) (oi := ⟨some 58, _, _, _, _, _⟩) (v := .pointer (some ⟨gO, 13, none⟩)) rfl (by kernel_rfl) (by kernel_rfl) (by kernel_rfl) (fun _ _ _ h => h) (Or.inl ⟨by rfl, ?_⟩) hHeld ?_
  · intro ww hS
    try dsimp only at hS
    go_simp
    try with_reducible rfl
    try omega
  try simp only [Act.put, List.setIfInBounds_toArray, List.set_cons_zero, List.set_cons_succ]
  refine wpAnyH_take (i := 6) (oi := ⟨some 59, _, _, _, _, _⟩) (v := .int .u64 ((word : Nat) : Int)) rfl (by kernel_rfl) (by kernel_rfl) (by kernel_rfl) (fun _ _ _ h => h) (Or.inl ⟨by rfl, ?_⟩) hHeld ?_
  · intro ww hS
    try dsimp only at hS
    have O_13 := (hS).at_ 1 13 rfl (v := .int .u64 ((word : Nat) : Int)) rfl
    have O_z := (hS).lt 1 rfl
    go_simp
    try with_reducible rfl
    try omega
  try simp only [Act.put, List.setIfInBounds_toArray, List.set_cons_zero, List.set_cons_succ]
  refine wpAnyH_take (i := 7) (oi := ⟨some 60, _, _, _, _, _⟩) (v := .bool false) rfl (by kernel_rfl) (by kernel_rfl) (by kernel_rfl) (fun _ _ _ h => h) (Or.inl ⟨by rfl, ?_⟩) hHeld ?_
  · intro ww hS
    try dsimp only at hS
    go_simp
    try with_reducible rfl
    try omega
  try simp only [Act.put, List.setIfInBounds_toArray, List.set_cons_zero, List.set_cons_succ]
  refine wpAnyH_done (by kernel_rfl) ?_ _
  clear hHeld
  have O_13 := L.at_ 1 13 rfl (v := .int .u64 ((word : Nat) : Int)) rfl
  have O_12 := L.at_ 1 12 rfl (v := .int .i64 (b : Int)) rfl
  have O_z := L.lt 1 rfl
  go_wp2_with fail
  refine ((TC _).out).mono ?_
  rintro e w' ⟨rfl, rfl⟩
  clear O_13 O_12 O_z
  have O_11 := L.at_ 1 11 rfl (v := .int .i64 (lf : Int)) rfl
  have O_z := L.lt 1 rfl
  go_wp2_with fail
  have KS := L.K.size
  refine ((TSe _ (hU.below L.K)).out).mono ?_
  rintro e w3 ⟨gS, dS, rfl, U, hgS, K'⟩
  clear O_11 O_z
  have Lb := L.lts
  replace L := L.over K'
  replace L := L.us_av (fun i b e b' o e' => by injection e' with e'; injection e' with e1; have := Lb i b e; omega) U
  clear Lb
  try dsimp only [lF, List.cons_append, List.nil_append] at L
  clear U
  have H_0 := L.at_ 2 0 rfl (v := .int .u32 (a : Int)) rfl
  have O_11 := L.at_ 1 11 rfl (v := .int .i64 (lf : Int)) rfl
  have O_12 := L.at_ 1 12 rfl (v := .int .i64 (b : Int)) rfl
  have O_4 := L.at_ 1 4 rfl (v := .int .u32 aad) rfl
  have H_z := L.lt 2 rfl
  have O_z := L.lt 1 rfl
  have O_f4 := L.fz 1 4 rfl
  have ne_O_H := L.ne_ 1 2 rfl rfl (by decide)
  go_upto_region 25 with fail
  clear H_0 O_11 O_12 O_4 H_z O_z O_f4 ne_O_H
  replace L := ((L.set 1 4 rfl (.int .u32 (z : Int))).is 1 (opv ⟨A0, n0, c0, A1, n1, c1, A2, n2, c2, A3, n3, c3⟩ ⟨2, addr, err, (z : Int), used, 3, shard, sought, (lf : Int), (b : Int), word, full, at_, tries, item, stamp⟩) rfl)
  try dsimp only [nput] at L
  generalize (w3).setCell ⟨gO, 4, none⟩ (.int .u32 (z : Int)) = w4 at L ⊢
  go_wp2_with fail
  refine ((TFu _).out).mono ?_
  rintro e w' ⟨rfl, rfl⟩
  have O_8 := L.at_ 1 8 rfl (v := .int .i64 3) rfl
  have O_z := L.lt 1 rfl
  have O_f8 := L.fz 1 8 rfl
  go_upto_region 27 with fail
  clear O_8 O_z O_f8
  replace L := ((L.set 1 8 rfl (.int .i64 4)).is 1 (opv ⟨A0, n0, c0, A1, n1, c1, A2, n2, c2, A3, n3, c3⟩ ⟨2, addr, err, (z : Int), used, 4, shard, sought, (lf : Int), (b : Int), word, full, at_, tries, item, stamp⟩) rfl)
  try dsimp only [nput] at L
  generalize (w4).setCell ⟨gO, 8, none⟩ (.int .i64 4) = w5 at L ⊢
  have O_14 := L.at_ 1 14 rfl (v := .bool full) rfl
  have O_z := L.lt 1 rfl
  have O_f14 := L.fz 1 14 rfl
  go_upto_region 28 with fail
  clear O_14 O_z O_f14
  replace L := ((L.set 1 14 rfl (.bool true)).is 1 (opv ⟨A0, n0, c0, A1, n1, c1, A2, n2, c2, A3, n3, c3⟩ ⟨2, addr, err, (z : Int), used, 4, shard, sought, (lf : Int), (b : Int), word, true, at_, tries, item, stamp⟩) rfl)
  try dsimp only [nput] at L
  generalize (w5).setCell ⟨gO, 14, none⟩ (.bool true) = w6 at L ⊢
  have O_16 := L.at_ 1 16 rfl (v := .int .i64 at_) rfl
  have O_z := L.lt 1 rfl
  have O_f16 := L.fz 1 16 rfl
  go_upto_region 29 with fail
  clear O_16 O_z O_f16
  replace L := ((L.set 1 16 rfl (.int .i64 0)).is 1 (opv ⟨A0, n0, c0, A1, n1, c1, A2, n2, c2, A3, n3, c3⟩ ⟨2, addr, err, (z : Int), used, 4, shard, sought, (lf : Int), (b : Int), word, true, 0, tries, item, stamp⟩) rfl)
  try dsimp only [nput] at L
  generalize (w6).setCell ⟨gO, 16, none⟩ (.int .i64 0) = w7 at L ⊢
  have O_13 := L.at_ 1 13 rfl (v := .int .u64 ((word : Nat) : Int)) rfl
  have O_z := L.lt 1 rfl
  have O_f13 := L.fz 1 13 rfl
  go_upto_region 30 with fail
  clear O_13 O_z O_f13
  replace L := ((L.set 1 13 rfl (.int .u64 0)).is 1 (opv ⟨A0, n0, c0, A1, n1, c1, A2, n2, c2, A3, n3, c3⟩ ⟨2, addr, err, (z : Int), used, 4, shard, sought, (lf : Int), (b : Int), 0, true, 0, tries, item, stamp⟩) rfl)
  try dsimp only [nput] at L
  generalize (w7).setCell ⟨gO, 13, none⟩ (.int .u64 0) = w8 at L ⊢
  replace L := L.drew
  refine wp_region_held_drew (S := fun w' => ∃ v_R : Array Value, v_R.size = 20 ∧ Loc w w' [(gR, 40, v_R), (gO, 40, opv ⟨A0, n0, c0, A1, n1, c1, A2, n2, c2, A3, n3, c3⟩ ⟨2, addr, err, (z : Int), used, 4, shard, sought, (lf : Int), (b : Int), 0, true, 0, tries, item, stamp⟩), (gH, 27, #[.int .u32 (a : Int), .int .i64 p, .slice A n c, .int .i64 (ns : Int), .int .i64 wo, .int .i64 qu, .int .i64 tr])] [uF (some ⟨gS, 0, none⟩) m dS (ys.set lf y)]) (by kernel_rfl) (⟨_, rfl, L⟩) (fun hHeld => ?_)
  generalize w8.drew = v9 at hHeld L ⊢
  refine wpAnyH_take (i := 0) (oi := ⟨some 99, _, _, _, _, _⟩) (v := .slice (some ⟨gS, 0, none⟩) m dS) rfl (by kernel_rfl) (by kernel_rfl) (by kernel_rfl) (fun _ _ _ h => h) (Or.inl ⟨by rfl, ?_⟩) hHeld ?_
  · intro ww hS
    try dsimp only at hS
    go_simp
    try with_reducible rfl
    try omega
  try simp only [Act.put, List.setIfInBounds_toArray, List.set_cons_zero, List.set_cons_succ]
  refine wpAnyH_take (i := 1) (oi := ⟨some 100, _, _, _, _, _⟩) (v := .agg (opv ⟨A0, n0, c0, A1, n1, c1, A2, n2, c2, A3, n3, c3⟩ ⟨2, addr, err, (z : Int), used, 4, shard, sought, (lf : Int), (b : Int), 0, true, 0, tries, item, stamp⟩)) rfl (by kernel_rfl) (by kernel_rfl) (by kernel_rfl) (fun _ _ _ h => h) (yieldsIf_load_row (by rfl) 40 (.tmp 5) rfl gO rfl 40 _ (0, 0) _ (fun _ hS => ((hS.choose_spec.2).bk_ 1 rfl)) Tryz.underlying40 rfl op_sz) hHeld ?_
  try simp only [Act.put, List.setIfInBounds_toArray, List.set_cons_zero, List.set_cons_succ]
  refine wpAnyH_take (i := 2) (oi := ⟨some 6, _, _, _, _, _⟩) (v := .slice (some ⟨gS, 0, none⟩) m dS) rfl (by kernel_rfl) (by kernel_rfl) (by kernel_rfl) (fun _ _ _ h => h) (Or.inl ⟨by rfl, ?_⟩) hHeld ?_
  · intro ww hS
    try dsimp only at hS
    go_simp
    try with_reducible rfl
    try omega
  try simp only [Act.put, List.setIfInBounds_toArray, List.set_cons_zero, List.set_cons_succ]
  refine wpAnyH_ready (rs := [3]) (by kernel_rfl) (by simp) ?_
  refine AllReadyH.cons (o := ⟨none, _, _, _, _, _⟩) rfl (fun K0 hK => ?_) AllReadyH.nil
  rw [if_pos (by rfl)]
  refine wp_store_row 40 (.tmp 7) (.tmp 100) rfl gR _ rfl rfl _ _ (L.bk_ 0 rfl) op_sz rfl (opv_one _ _) ?_
  replace L := L.row 0 rfl (opv ⟨A0, n0, c0, A1, n1, c1, A2, n2, c2, A3, n3, c3⟩ ⟨2, addr, err, (z : Int), used, 4, shard, sought, (lf : Int), (b : Int), 0, true, 0, tries, item, stamp⟩)
  try dsimp only [nput] at L
  refine hK.out _ _ ⟨_, rfl, L⟩ (fun hHeld' => ?_)
  clear hHeld hK K0
  have hHeld := hHeld'
  clear hHeld'
  generalize v9.setRow gR (opv ⟨A0, n0, c0, A1, n1, c1, A2, n2, c2, A3, n3, c3⟩ ⟨2, addr, err, (z : Int), used, 4, shard, sought, (lf : Int), (b : Int), 0, true, 0, tries, item, stamp⟩) = v10 at hHeld L ⊢
  try simp only [Act.put]
  refine wpAnyH_take (i := 4) (oi := ⟨some 8, _, _, _, _, _⟩) (v := .bool true) rfl (by kernel_rfl) (by kernel_rfl) (by kernel_rfl) (fun _ _ _ h => h) (Or.inl ⟨by rfl, ?_⟩) hHeld ?_
  · intro ww hS
    try dsimp only at hS
    go_simp
    try with_reducible rfl
    try omega
  try simp only [Act.put, List.setIfInBounds_toArray, List.set_cons_zero, List.set_cons_succ]
  refine wpAnyH_done (by kernel_rfl) ?_ _
  clear hHeld
  go_wp2
  refine bodyPost_ret (v := .tuple #[.slice (some ⟨gS, 0, none⟩) m dS, .agg (opv ⟨A0, n0, c0, A1, n1, c1, A2, n2, c2, A3, n3, c3⟩ ⟨2, addr, err, (z : Int), used, 4, shard, sought, (lf : Int), (b : Int), 0, true, 0, tries, item, stamp⟩), .bool true]) ?_ rfl ?_
  · exact results_tct (fn := Tryz.f38) Tryz.results38 _ _ gR _ _ (0, 0) _ rfl (L.bk_ 0 rfl) Tryz.underlying40 rfl op_sz
  exact ⟨_, _, rfl, L.us_ 0 rfl, (fun i hi _ b o e => by injection e with e; injection e with e1; omega), L.K⟩
set_option maxRecDepth 100000 in
set_option maxHeartbeats 2000000 in
theorem rcx_go (ha : a < 4294967296) (hM : Much a p M) (hU : US w B m d ys) (hm : m = lv M + tv M + 1) (hk : s.kind = 2) (hlf : s.leaf = (lf : Int)) (hlv : lf < lv M) (hph : s.phase = 3) (hbt : s.bit = (b : Int)) (hb32 : b < 32) (hof : 32 * lf + b < M) (hw : s.word < 18446744073709551616) (hne : gt ys lf = s.word) (hfl : fl (clm s.word b) = false) :
    Calls Tryz.prog 38 #[.agg #[.int .u32 (a : Int), .int .i64 p, .slice A n c, .int .i64 (ns : Int), .int .i64 wo, .int .i64 qu, .int .i64 tr], .slice B m d, .agg (opv h s)] w (RetXR (ende (adS s (adr a lf b))) h m (ys.set lf (clm s.word b)) true B w) := by
  have hm6 : m ≤ 65536 := by have := lv_le hM.most; have := tv_le hM.most; omega
  have hcm : lf < m := by omega
  obtain ⟨bb, oo, hBe, hbb, hcc⟩ := hU.get hcm
  subst hBe
  have hcm2 : (lf : Int) < (m : Int) := by omega
  have hx64 := gt_lt hU.fit lf
  rw [hne] at hcc
  have f1 : ((s.word : Int) != (s.word : Int)) = false := by simp
  have hbn : s.bit = (b : Int) := hbt
  have TC := fun w => Lib.hid (rclaim_any s.word b hw (by omega) w)
  have hy := clm_lt s.word b
  have TFu := fun w => Lib.hid (rfull_any (clm s.word b) hy w)
  rw [hfl] at TFu
  obtain ⟨y, hy1⟩ : ∃ y, y = clm s.word b := ⟨_, rfl⟩
  simp only [← hy1] at TC TFu ⊢
  rw [← hy1] at hy
  have TSe : ∀ w, US w (some ⟨bb, oo, none⟩) m d ys → Hid (Calls Tryz.prog 33 #[.slice (some ⟨bb, oo, none⟩) m d, .int .i64 (lf : Nat), .int .u64 (y : Nat)] w (RetSM m (ys.set lf y) w)) := fun w U => by have := crset_new U (lf : Int) hm6 hy; rw [stI_nat] at this; exact this
  obtain ⟨z, hz⟩ : ∃ z, z = adr a lf b := ⟨_, rfl⟩
  rw [← hz]
  have hfit := hM.fits ha
  have hz2 : z = a + (32 * lf + b) := by rw [hz]; unfold adr; rw [Nat.mod_eq_of_lt (by omega)]
  obtain ⟨m32, h32⟩ : ∃ x, x = 32 * lf := ⟨_, rfl⟩
  obtain ⟨q, hq⟩ : ∃ x, x = m32 + b := ⟨_, rfl⟩
  have g1 : (32 : Int) * (lf : Int) = (m32 : Int) := by omega
  have g2 : (m32 : Int) + (b : Int) = (q : Int) := by omega
  have g3 : (a : Int) + (q : Int) = (z : Int) := by omega
  have w1 : IntKind.i64.wrap (m32 : Int) = (m32 : Int) := IntWalk.i64_in _ (by omega)
  have w2 : IntKind.i64.wrap (q : Int) = (q : Int) := IntWalk.i64_in _ (by omega)
  have w3 : IntKind.u32.wrap (q : Int) = (q : Int) := IntWalk.u32_in _ (by omega)
  have w4 : IntKind.u32.wrap (z : Int) = (z : Int) := IntWalk.u32_in _ (by omega)
  have TG := fun w => Lib.hid (rgoes_end0 (w := w) (h := h) (a := a) (p := p) (sh := (ns : Int)) (wo := wo) (qu := qu) (tr := tr) (A := A) (n := n) (c := c) (s := adS s z) (by show s.kind ≠ 4; omega))
  clear hz hz2 h32 hq hy1 hfl hne hm hm6 hx64 hfit hw hbt ha hof
  rcases s with ⟨kind, addr, err, aad, used, phase, shard, sought, leaf, bit, word, full, at_, tries, item, stamp⟩
  rcases h with ⟨A0, n0, c0, A1, n1, c1, A2, n2, c2, A3, n3, c3⟩
  try dsimp only at *
  subst hk hlf hph hbn
  go_enter Tryz.func38, Tryz.ntmps38
  go_upto_region 1 with (fail)
  have L := Loc.start w
  replace L := (((L).alloc #[.int .u32 (a : Int), .int .i64 p, .slice A n c, .int .i64 (ns : Int), .int .i64 wo, .int .i64 qu, .int .i64 tr] 27).alloc (opv ⟨A0, n0, c0, A1, n1, c1, A2, n2, c2, A3, n3, c3⟩ ⟨2, addr, err, aad, used, 3, shard, sought, (lf : Int), (b : Int), word, full, at_, tries, item, stamp⟩) 40).alloc #[.int .i64 0, .int .u32 0, .slice none 0 0, .int .i64 0, .int .u32 0, .bool false, .slice none 0 0, .slice none 0 0, .int .i64 0, .int .i64 0, .int .i64 0, .int .i64 0, .int .i64 0, .int .u64 0, .bool false, .slice none 0 0, .int .i64 0, .int .i64 0, .int .i64 0, .int .i64 0] 40
  try simp only [World.size_alloc] at L
  replace L := L.is 0 (opv hd0 sc0) rfl
  try dsimp only [nput] at L
  generalize (((w).alloc (.cells #[.int .u32 (a : Int), .int .i64 p, .slice A n c, .int .i64 (ns : Int), .int .i64 wo, .int .i64 qu, .int .i64 tr] 27)).alloc (.cells (opv ⟨A0, n0, c0, A1, n1, c1, A2, n2, c2, A3, n3, c3⟩ ⟨2, addr, err, aad, used, 3, shard, sought, (lf : Int), (b : Int), word, full, at_, tries, item, stamp⟩) 40)).alloc (.cells #[.int .i64 0, .int .u32 0, .slice none 0 0, .int .i64 0, .int .u32 0, .bool false, .slice none 0 0, .slice none 0 0, .int .i64 0, .int .i64 0, .int .i64 0, .int .i64 0, .int .i64 0, .int .u64 0, .bool false, .slice none 0 0, .int .i64 0, .int .i64 0, .int .i64 0, .int .i64 0] 40) = w1 at L ⊢
  generalize w.heap.size + 1 + 1 = gR at L ⊢
  generalize w.heap.size + 1 = gO at L ⊢
  generalize w.heap.size = gH at L ⊢
  have O_8 := L.at_ 1 8 rfl (v := .int .i64 3) rfl
  have O_z := L.lt 1 rfl
  go_upto_region 16 with fail
  clear O_8 O_z
  replace L := L.drew
  refine wp_region_held_drew (S := fun w' => Loc w w' [(gR, 40, opv hd0 sc0), (gO, 40, opv ⟨A0, n0, c0, A1, n1, c1, A2, n2, c2, A3, n3, c3⟩ ⟨2, addr, err, aad, used, 3, shard, sought, (lf : Int), (b : Int), word, full, at_, tries, item, stamp⟩), (gH, 27, #[.int .u32 (a : Int), .int .i64 p, .slice A n c, .int .i64 (ns : Int), .int .i64 wo, .int .i64 qu, .int .i64 tr])] []) (by kernel_rfl) L (fun hHeld => ?_)
  generalize w1.drew = v2 at hHeld L ⊢
  refine wpAnyH_take (i := 0) (oi := ⟨some 53, _, _, _, _, _⟩) (v := .slice (some ⟨bb, oo, none⟩) m d) rfl (by kernel_rfl) (by kernel_rfl) (by kernel_rfl) (fun _ _ _ h => h) (Or.inl ⟨by rfl, ?_⟩) hHeld ?_
  · intro ww hS
    try dsimp only at hS
    go_simp
    try with_reducible rfl
    try omega
  try simp only [Act.put, List.setIfInBounds_toArray, List.set_cons_zero, List.set_cons_succ]
  refine wpAnyH_take (i := 1) (oi := ⟨some 54, _, _, _, _, _⟩) (v := .pointer (some ⟨gO, 11, none⟩)) rfl (by kernel_rfl) (by kernel_rfl) (by kernel_rfl) (fun _ _ _ h => h) (Or.inl ⟨by rfl, ?_⟩) hHeld ?_
  · intro ww hS
    try dsimp only at hS
    go_simp
    try with_reducible rfl
    try omega
  try simp only [Act.put, List.setIfInBounds_toArray, List.set_cons_zero, List.set_cons_succ]
  refine wpAnyH_take (i := 2) (oi := ⟨some 55, _, _, _, _, _⟩) (v := .int .i64 (lf : Int)) rfl (by kernel_rfl) (by kernel_rfl) (by kernel_rfl) (fun _ _ _ h => h) (Or.inl ⟨by rfl, ?_⟩) hHeld ?_
  · intro ww hS
    try dsimp only at hS
    have O_11 := (hS).at_ 1 11 rfl (v := .int .i64 (lf : Int)) rfl
    have O_z := (hS).lt 1 rfl
    go_simp
    try with_reducible rfl
    try omega
  try simp only [Act.put, List.setIfInBounds_toArray, List.set_cons_zero, List.set_cons_succ]
  refine wpAnyH_take (i := 3) (oi := ⟨some 56, _, _, _, _, _⟩) (v := .pointer (some ⟨bb, oo + lf, none⟩)) rfl (by kernel_rfl) (by kernel_rfl) (by kernel_rfl) (fun _ _ _ h => h) (Or.inl ⟨by rfl, ?_⟩) hHeld ?_
  · intro ww hS
    try dsimp only at hS
    go_simp
    try with_reducible rfl
    try omega
  try simp only [Act.put, List.setIfInBounds_toArray, List.set_cons_zero, List.set_cons_succ]
  refine wpAnyH_take (i := 4) (oi := ⟨some 57, _, _, _, _, _⟩) (v := .int .u64 ((word : Nat) : Int)) rfl (by kernel_rfl) (by kernel_rfl) (by kernel_rfl) (fun _ _ _ h => h) (Or.inl ⟨by rfl, ?_⟩) hHeld ?_
  · intro ww hS
    try dsimp only at hS
    have X := (((hS)).K.cell (p := ⟨bb, oo + lf, none⟩) hbb).trans hcc
    go_simp
    try with_reducible rfl
    try omega
  try simp only [Act.put, List.setIfInBounds_toArray, List.set_cons_zero, List.set_cons_succ]
  refine wpAnyH_take (i := 5) (oi := ⟨some 58, _, _, _, _, _⟩) (v := .pointer (some ⟨gO, 13, none⟩)) rfl (by kernel_rfl) (by kernel_rfl) (by kernel_rfl) (fun _ _ _ h => h) (Or.inl ⟨by rfl, ?_⟩) hHeld ?_
  · intro ww hS
    try dsimp only at hS
    go_simp
    try with_reducible rfl
    try omega
  try simp only [Act.put, List.setIfInBounds_toArray, List.set_cons_zero, List.set_cons_succ]
  refine wpAnyH_take (i := 6) (oi := ⟨some 59, _, _, _, _, _⟩) (v := .int .u64 ((word : Nat) : Int)) rfl (by kernel_rfl) (by kernel_rfl) (by kernel_rfl) (fun _ _ _ h => h) (Or.inl ⟨by rfl, ?_⟩) hHeld ?_
  · intro ww hS
    try dsimp only at hS
    have O_13 := (hS).at_ 1 13 rfl (v := .int .u64 ((word : Nat) : Int)) rfl
    have O_z := (hS).lt 1 rfl
    go_simp
    try with_reducible rfl
    try omega
  try simp only [Act.put, List.setIfInBounds_toArray, List.set_cons_zero, List.set_cons_succ]
  refine wpAnyH_take (i := 7) (oi := ⟨some 60, _, _, _, _, _⟩) (v := .bool false) rfl (by kernel_rfl) (by kernel_rfl) (by kernel_rfl) (fun _ _ _ h => h) (Or.inl ⟨by rfl, ?_⟩) hHeld ?_
  · intro ww hS
    try dsimp only at hS
    go_simp
    try with_reducible rfl
    try omega
  try simp only [Act.put, List.setIfInBounds_toArray, List.set_cons_zero, List.set_cons_succ]
  refine wpAnyH_done (by kernel_rfl) ?_ _
  clear hHeld
  have O_13 := L.at_ 1 13 rfl (v := .int .u64 ((word : Nat) : Int)) rfl
  have O_12 := L.at_ 1 12 rfl (v := .int .i64 (b : Int)) rfl
  have O_z := L.lt 1 rfl
  go_wp2_with fail
  refine ((TC _).out).mono ?_
  rintro e w' ⟨rfl, rfl⟩
  clear O_13 O_12 O_z
  have O_11 := L.at_ 1 11 rfl (v := .int .i64 (lf : Int)) rfl
  have O_z := L.lt 1 rfl
  go_wp2_with fail
  have KS := L.K.size
  refine ((TSe _ (hU.below L.K)).out).mono ?_
  rintro e w3 ⟨gS, dS, rfl, U, hgS, K'⟩
  clear O_11 O_z
  have Lb := L.lts
  replace L := L.over K'
  replace L := L.us_av (fun i b e b' o e' => by injection e' with e'; injection e' with e1; have := Lb i b e; omega) U
  clear Lb
  try dsimp only [lF, List.cons_append, List.nil_append] at L
  clear U
  have H_0 := L.at_ 2 0 rfl (v := .int .u32 (a : Int)) rfl
  have O_11 := L.at_ 1 11 rfl (v := .int .i64 (lf : Int)) rfl
  have O_12 := L.at_ 1 12 rfl (v := .int .i64 (b : Int)) rfl
  have O_4 := L.at_ 1 4 rfl (v := .int .u32 aad) rfl
  have H_z := L.lt 2 rfl
  have O_z := L.lt 1 rfl
  have O_f4 := L.fz 1 4 rfl
  have ne_O_H := L.ne_ 1 2 rfl rfl (by decide)
  go_upto_region 25 with fail
  clear H_0 O_11 O_12 O_4 H_z O_z O_f4 ne_O_H
  replace L := ((L.set 1 4 rfl (.int .u32 (z : Int))).is 1 (opv ⟨A0, n0, c0, A1, n1, c1, A2, n2, c2, A3, n3, c3⟩ ⟨2, addr, err, (z : Int), used, 3, shard, sought, (lf : Int), (b : Int), word, full, at_, tries, item, stamp⟩) rfl)
  try dsimp only [nput] at L
  generalize (w3).setCell ⟨gO, 4, none⟩ (.int .u32 (z : Int)) = w4 at L ⊢
  go_wp2_with fail
  refine ((TFu _).out).mono ?_
  rintro e w' ⟨rfl, rfl⟩
  go_wp2_with (first | (refine wpList_load_row rfl 27 (.tmp 3) rfl gH rfl _ _ (0, 0) _ (L.bk_ 2 rfl) Tryz.underlying27 rfl cf_sz ?_) | (refine wpList_load_row rfl 40 (.tmp 5) rfl gO rfl _ _ (0, 0) _ (L.bk_ 1 rfl) Tryz.underlying40 rfl op_sz ?_))
  refine ((TG _).out).mono ?_
  rintro e w5 ⟨rfl, K'⟩
  replace L := L.over K'
  go_wp2_with (refine wpList_store_row rfl 40 (.tmp 7) (.tmp 104) rfl gR _ rfl rfl _ _ (L.bk_ 0 rfl) op_sz rfl (opv_one _ _) ?_)
  replace L := (L.row 0 rfl (opv ⟨A0, n0, c0, A1, n1, c1, A2, n2, c2, A3, n3, c3⟩ (ende (adS ⟨2, addr, err, aad, used, 3, shard, sought, (lf : Int), (b : Int), word, full, at_, tries, item, stamp⟩ z))))
  try dsimp only [nput] at L
  generalize (w5).setRow gR (opv ⟨A0, n0, c0, A1, n1, c1, A2, n2, c2, A3, n3, c3⟩ (ende (adS ⟨2, addr, err, aad, used, 3, shard, sought, (lf : Int), (b : Int), word, full, at_, tries, item, stamp⟩ z))) = w6 at L ⊢
  refine bodyPost_ret (v := .tuple #[.slice (some ⟨gS, 0, none⟩) m dS, .agg (opv ⟨A0, n0, c0, A1, n1, c1, A2, n2, c2, A3, n3, c3⟩ (ende (adS ⟨2, addr, err, aad, used, 3, shard, sought, (lf : Int), (b : Int), word, full, at_, tries, item, stamp⟩ z))), .bool true]) ?_ rfl ?_
  · exact results_tct (fn := Tryz.f38) Tryz.results38 _ _ gR _ _ (0, 0) _ rfl (L.bk_ 0 rfl) Tryz.underlying40 rfl op_sz
  exact ⟨_, _, rfl, L.us_ 0 rfl, (fun i hi _ b o e => by injection e with e; injection e with e1; omega), L.K⟩
end
end Go.Proofs.YtacgjaohfcoigaaGreat
