/-
  Where answers lie: a set and an answer handed back, apart from what is the caller's own; the least offset searched; a batch gone through.
-/
import Derived.Test.YtmakbmmnjbnfiaaDoorSpecKinds
import Derived.Deep.WholeRow
namespace Go.Proofs.YtmakbmmnjbnfiaaDoor
open Go.RowKit
set_option linter.unusedVariables false
/-- The list doesn't lie in block g. -/
def Av (g : Nat) (A : Option Addr) (n : Nat) : Prop := 0 < n → ∀ b o, A = some ⟨b, o, none⟩ → b ≠ g
section
variable {k : IntKind} {lo : Nat} {w : World} {A : Option Addr} {n c : Nat} {xs : List Int}
theorem IS.av (h : IS k lo w A n c xs) {g : Nat} (hg : g < lo) : Av g A n := fun hn b o e => by
  obtain ⟨b', o', e', hl, _⟩ := h.cells hn
  rw [e'] at e
  injection e with e
  injection e with e1 e2
  omega
theorem IS.av_old (h : IS k lo w A n c xs) {g : Nat} (hg : w.heap.size ≤ g) : Av g A n := fun hn b o e => by
  obtain ⟨b', o', e', _, hl, _⟩ := h.cells hn
  rw [e'] at e
  injection e with e
  injection e with e1 e2
  omega
theorem IS.row_av (h : IS k lo w A n c xs) {g : Nat} (hg : Av g A n) (l : Array Value) : IS k lo (w.setRow g l) A n c xs :=
  h.keep (by simp) (fun b o hn e _ => setRow_other w g b l (hg hn b o e))
theorem IS.cell_av (h : IS k lo w A n c xs) {p : Addr} (hg : Av p.block A n) (u : Value) : IS k lo (w.setCell p u) A n c xs :=
  h.keep (by simp [World.setCell]) (fun b o hn e _ => Below.heap_setCell w p u b (hg hn b o e))
theorem Av.nil_ (g : Nat) (A : Option Addr) : Av g A 0 := fun h => absurd h (by omega)
end
/-- A set and an answer. B, m: where the set lay that was handed in. -/
def RetSA (B : Option Addr) (m : Nat) (xs : List Int) (x : An) (w : World) (e : Ending) (w' : World) : Prop :=
  ∃ S n c B1 m1 d1 B2 m2 d2, e = .returned (.tuple #[.slice S n c, .agg #[.int .i64 x.1, .int .u32 x.2.1, .bool x.2.2.1, .slice B1 m1 d1, .slice B2 m2 d2]]) ∧ IS .i64 0 w' S n c xs ∧ (∀ g, g < w.heap.size → Av g B m → Av g S n) ∧ IS .u32 w.heap.size w' B1 m1 d1 x.2.2.2.1 ∧ IS .i64 w.heap.size w' B2 m2 d2 x.2.2.2.2 ∧ Below w.heap.size w w'
/-- A set and a bool. -/
def RetLB (B : Option Addr) (m : Nat) (r : List Int × Bool) (w : World) (e : Ending) (w' : World) : Prop :=
  ∃ S n c, e = .returned (.tuple #[.slice S n c, .bool r.2]) ∧ IS .i64 0 w' S n c r.1 ∧ (∀ g, g < w.heap.size → Av g B m → Av g S n) ∧ Below w.heap.size w w'
theorem results_tc {P : Program} {fn : Func} {q p : Tmp} {ty : TypeId} (h : fn.results = #[.tmp q, .cell p ty]) (tmps : Array Value) (w : World) (g : Nat) (t : TypeId) (cs : Array Value) (fr : Nat × Nat) (d : TypeDesc)
    (hp : tmps.getD p undef = .pointer (some ⟨g, 0, none⟩)) (hg : w.heap[g]? = some (.cells cs t fr))
    (hu : P.underlying ty = some d) (hd : (match d with | .struct _ | .array _ _ => true | _ => false) = true) (hi : (P.info? ty).map (·.size) = some cs.size) :
    (results fn tmps).run P w = .ok (.tuple #[tmps.getD q undef, .agg cs]) w := by
  have hp' : tmps[p]?.getD undef = .pointer (some ⟨g, 0, none⟩) := by simpa using hp
  simp [results, h, hp', asAddr, run_loadVar_row w g t ty cs fr d hg hu hd hi]
/-! ### the least offset -/
/-- What is known at a round's head: k is next, j numbers of the set were met. -/
structure LI (zs xs : List Int) (k j : Nat) : Prop where
  le : j ≤ xs.length
  met : ∀ i, i < j → gi xs i < (k : Int)
  left : ∀ i, j ≤ i → i < xs.length → (k : Int) ≤ gi xs i
  none_ : ∀ i, i < k → fr zs xs i = false
section
variable {zs xs : List Int} {k j M : Nat}
theorem LI.start (hb : ∀ x ∈ xs, 0 ≤ x) : LI zs xs 0 0 := ⟨Nat.zero_le _, fun i hi => by omega, fun i _ hi => hb _ (gi_mem hi), fun i hi => by omega⟩
theorem LI.hit (h : LI zs xs k j) (hr : Ris xs) (hj : j < xs.length) (e : gi xs j = (k : Int)) : LI zs xs (k + 1) (j + 1) :=
  ⟨hj, fun i hi => by
    rcases Nat.lt_or_ge i j with g | g
    · have := h.met i g; omega
    · obtain rfl : i = j := by omega
      omega, fun i hi hl => by have := hr.lt (i := j) (j := i) (by omega) hl; omega, fun i hi => by
    rcases Nat.lt_or_ge i k with g | g
    · exact h.none_ i g
    · obtain rfl : i = k := by omega
      have : hasB xs (i : Int) = true := hasB_iff.2 (by rw [← e]; exact gi_mem hj)
      unfold fr; simp [this]⟩
theorem LI.out (h : LI zs xs k j) (hr : Ris xs) (e : j < xs.length → gi xs j ≠ (k : Int)) : hasB xs (k : Int) = false := by
  cases hb : hasB xs (k : Int) with
  | false => rfl
  | true =>
    obtain ⟨i, hi, e'⟩ := List.mem_iff_getElem.1 (hasB_iff.1 hb)
    rw [← gi_at hi] at e'
    rcases Nat.lt_or_ge i j with g | g
    · have := h.met i g; omega
    · have hj : j < xs.length := by omega
      have h1 := h.left j (Nat.le_refl _) hj
      have h2 := hr.le g hi
      exact absurd (by omega) (e hj)
theorem LI.held (h : LI zs xs k j) (e : j < xs.length → gi xs j ≠ (k : Int)) (hr : Ris xs) (hh : hasB zs (k : Int) = true) : LI zs xs (k + 1) j :=
  ⟨h.le, fun i hi => by have := h.met i hi; omega, fun i hi hl => by
    have h1 := h.left j (Nat.le_refl _) (by omega)
    have h2 := e (by omega)
    have h3 := hr.le hi hl
    omega, fun i hi => by
    rcases Nat.lt_or_ge i k with g | g
    · exact h.none_ i g
    · obtain rfl : i = k := by omega
      unfold fr; simp [hh]⟩
theorem LI.found (h : LI zs xs k j) (hr : Ris xs) (e : j < xs.length → gi xs j ≠ (k : Int)) (hh : hasB zs (k : Int) = false) (hk : k < M) : lea zs xs M = some k :=
  lea_some hk (fr_iff.2 ⟨hh, h.out hr e⟩) h.none_
theorem LI.end_ (h : LI zs xs k j) (hk : M ≤ k) : lea zs xs M = none := lea_none fun i hi => h.none_ i (by omega)
end
/-! ### a batch -/
section
variable {a M : Nat} {xs : List Int}
theorem batS_snoc (y : Int) : ∀ (l : List Int) {xs : List Int}, batS a M xs (l ++ [y]) = del (batS a M xs l) (ofO a M y.toNat)
  | [], _ => rfl
  | z :: r, xs => by rw [List.cons_append]; unfold batS; exact batS_snoc y r
theorem batE_snoc (y : Int) : ∀ (l : List Int) {xs : List Int}, batE a M xs (l ++ [y]) = batE a M xs l ++ [reE (batS a M xs l) (ofO a M y.toNat)]
  | [], _ => rfl
  | z :: r, xs => by rw [List.cons_append]; unfold batE batS; rw [batE_snoc y r]; rfl
theorem batE_len : ∀ (l : List Int) {xs : List Int}, (batE a M xs l).length = l.length
  | [], _ => rfl
  | z :: r, xs => by unfold batE; rw [List.length_cons, List.length_cons, batE_len r]
theorem batS_ris : ∀ (l : List Int) {xs : List Int}, Ris xs → Ris (batS a M xs l)
  | [], _, h => h
  | z :: r, xs, h => by unfold batS; exact batS_ris r (h.del _)
theorem batS_len : ∀ (l : List Int) {xs : List Int}, (batS a M xs l).length ≤ xs.length
  | [], _ => Nat.le_refl _
  | z :: r, xs => by unfold batS; exact Nat.le_trans (batS_len r) (len_del _ _)
theorem batS_mem : ∀ (l : List Int) {xs : List Int} {z : Int}, z ∈ batS a M xs l → z ∈ xs
  | [], _, _, h => h
  | _ :: r, xs, z, h => by unfold batS at h; exact (mem_del.1 (batS_mem r h)).1
/-- The errors, when k are told. -/
def bek (a M : Nat) (xs ys : List Int) (q k : Nat) : List Int := batE a M xs (ys.take k) ++ List.replicate (q - k) 0
theorem bek_len {ys : List Int} {q k : Nat} (hl : ys.length = q) (hk : k ≤ q) : (bek a M xs ys q k).length = q := by
  unfold bek; rw [List.length_append, batE_len, List.length_take, List.length_replicate]; omega
theorem bek_start (ys : List Int) (q : Nat) : bek a M xs ys q 0 = List.replicate q 0 := by unfold bek; simp [batE]
theorem bek_end {ys : List Int} {q : Nat} (hl : ys.length = q) : bek a M xs ys q q = batE a M xs ys := by unfold bek; rw [List.take_of_length_le (by omega)]; simp
theorem bek_set {ys : List Int} {q k : Nat} (hl : ys.length = q) (hk : k < q) : (bek a M xs ys q k).set k (reE (batS a M xs (ys.take k)) (ofO a M (gi ys k).toNat)) = bek a M xs ys q (k + 1) := by
  unfold bek
  have h1 : (batE a M xs (ys.take k)).length = k := by rw [batE_len, List.length_take]; omega
  rw [take_gi (by omega), batE_snoc, List.set_append_right _ _ (by omega), h1, Nat.sub_self, List.append_assoc]
  congr 1
  obtain ⟨r, hr⟩ : ∃ r, q - k = r + 1 := ⟨q - k - 1, by omega⟩
  rw [hr, show q - (k + 1) = r by omega, List.replicate_succ, List.set_cons_zero]
  rfl
theorem batS_take {ys : List Int} {k : Nat} (hk : k < ys.length) : batS a M xs (ys.take (k + 1)) = del (batS a M xs (ys.take k)) (ofO a M (gi ys k).toNat) := by
  rw [take_gi hk, batS_snoc]
end
end Go.Proofs.YtmakbmmnjbnfiaaDoor
