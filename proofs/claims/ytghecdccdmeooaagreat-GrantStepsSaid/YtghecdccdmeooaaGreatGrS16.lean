/-
  What the functions that these laws call answer, and what follows of it; conditions: those that each theorem names. In this file: ModelMath, ModelRow, ModelAddrs, ModelNew, GrantRun, GrantAwake, SeekRefs, GrantR0, GrantRm, GrantR15.
-/
import Derived.Test.YtghecdccdmeooaaGreatGrS15
import Derived.Lib.AppendZerosOnto
import Derived.Lib.Walk
/-
  Sets as rising lists of integers: an offset put in, or taken away, is told by what is in alone; where an offset stands; when a list is a set that may be, and all of it; the set that a test tells. No program in it.
-/
namespace Go.Proofs.YtghecdccdmeooaaGreat
set_option maxRecDepth 100000
def Ris (xs : List Int) : Prop := xs.Pairwise (· < ·)
theorem Ris.ext {xs ys : List Int} (hx : Ris xs) (hy : Ris ys) (h : ∀ z, z ∈ xs ↔ z ∈ ys) : xs = ys := by
  induction xs generalizing ys with
  | nil =>
    cases ys with
    | nil => rfl
    | cons y t => have := (h y).2 (by simp); cases this
  | cons x r ih =>
    cases ys with
    | nil => have := (h x).1 (by simp); cases this
    | cons y t =>
      obtain ⟨hx1, hx2⟩ := List.pairwise_cons.1 hx
      obtain ⟨hy1, hy2⟩ := List.pairwise_cons.1 hy
      have e : x = y := by
        have h1 := (h x).1 (by simp)
        have h2 := (h y).2 (by simp)
        rcases List.mem_cons.1 h1 with h1 | h1
        · exact h1
        · rcases List.mem_cons.1 h2 with h2 | h2
          · exact h2.symm
          · have := hx1 _ h2
            have := hy1 _ h1
            omega
      subst e
      congr 1
      refine ih hx2 hy2 fun z => ⟨fun hz => ?_, fun hz => ?_⟩
      · rcases List.mem_cons.1 ((h z).1 (List.mem_cons_of_mem _ hz)) with e | g
        · have := hx1 _ hz; omega
        · exact g
      · rcases List.mem_cons.1 ((h z).2 (List.mem_cons_of_mem _ hz)) with e | g
        · have := hy1 _ hz; omega
        · exact g
theorem Ris.lt {xs : List Int} (h : Ris xs) {i j : Nat} (hij : i < j) (hj : j < xs.length) : gi xs i < gi xs j := by
  rw [gi_at (by omega), gi_at hj]
  exact List.pairwise_iff_getElem.1 h i j (by omega) hj hij
theorem Ris.nil : Ris [] := List.Pairwise.nil
/-- Those below x, and those above it. -/
def lo_ (xs : List Int) (x : Int) : List Int := xs.filter fun y => decide (y < x)
def hi_ (xs : List Int) (x : Int) : List Int := xs.filter fun y => decide (x < y)
def del (xs : List Int) (x : Int) : List Int := xs.filter fun y => decide (y ≠ x)
def at_ (xs : List Int) (x : Int) : Nat := (lo_ xs x).length
theorem Ris.lo {xs : List Int} (h : Ris xs) (x : Int) : Ris (lo_ xs x) := List.Pairwise.filter _ h
theorem Ris.hi {xs : List Int} (h : Ris xs) (x : Int) : Ris (hi_ xs x) := List.Pairwise.filter _ h
theorem Ris.del {xs : List Int} (h : Ris xs) (x : Int) : Ris (del xs x) := List.Pairwise.filter _ h
theorem Ris.two {xs ys : List Int} (hx : Ris xs) (hy : Ris ys) (h : ∀ a ∈ xs, ∀ b ∈ ys, a < b) : Ris (xs ++ ys) := List.pairwise_append.2 ⟨hx, hy, h⟩
theorem Ris.cons {x : Int} {ys : List Int} (hy : Ris ys) (h : ∀ b ∈ ys, x < b) : Ris (x :: ys) := List.pairwise_cons.2 ⟨h, hy⟩
/-- The set that a test tells, below k. -/
def os (f : Nat → Bool) : Nat → List Int
  | 0 => []
  | k + 1 => os f k ++ (if f k = true then [(k : Int)] else [])
theorem os_yes {f : Nat → Bool} {k : Nat} (h : f k = true) : os f (k + 1) = os f k ++ [(k : Int)] := by rw [os, if_pos h]
theorem os_no {f : Nat → Bool} {k : Nat} (h : f k = false) : os f (k + 1) = os f k := by rw [os, h]; simp
theorem mem_os {f : Nat → Bool} {k : Nat} {z : Int} : z ∈ os f k ↔ ∃ i : Nat, i < k ∧ f i = true ∧ z = (i : Int) := by
  induction k with
  | zero => exact ⟨fun h => (by cases h), fun ⟨i, hi, _⟩ => by omega⟩
  | succ k ih =>
    rw [os, List.mem_append, ih]
    constructor
    · rintro (⟨i, h1, h2, h3⟩ | h)
      · exact ⟨i, by omega, h2, h3⟩
      · split at h
        · rename_i e
          exact ⟨k, by omega, e, by simpa using h⟩
        · cases h
    · rintro ⟨i, h1, h2, h3⟩
      rcases Nat.lt_or_ge i k with g | g
      · exact .inl ⟨i, g, h2, h3⟩
      · obtain rfl : i = k := by omega
        rw [if_pos h2]
        exact .inr (by simpa using h3)
theorem ris_os (f : Nat → Bool) (k : Nat) : Ris (os f k) := by
  induction k with
  | zero => exact Ris.nil
  | succ k ih =>
    rw [os]
    refine Ris.two ih ?_ ?_
    · split
      · exact List.pairwise_singleton _ _
      · exact Ris.nil
    · intro a ha b hb
      obtain ⟨i, h1, _, rfl⟩ := mem_os.1 ha
      split at hb
      · have : b = (k : Int) := by simpa using hb
        omega
      · cases hb
theorem len_os (f : Nat → Bool) (k : Nat) : (os f k).length ≤ k := by
  induction k with
  | zero => exact Nat.le_refl _
  | succ k ih =>
    rw [os, List.length_append]
    split
    · simp; omega
    · simp; omega
/-- Which offsets are used: bit set, not reserved. -/
def uf (hs : List Int) (ys : List Nat) (i : Nat) : Bool := (gt ys (i / 32)).testBit (i % 32) && !hasB hs (i : Int)
end Go.Proofs.YtghecdccdmeooaaGreat

/-
  Rows of integers of the call's own: one more appended, a list appended, one made by appending where there is no room. Conditions: at most 65536 numbers.
-/
namespace Go.Proofs.YtghecdccdmeooaaGreat
set_option maxRecDepth 100000
open Go.RowKit
theorem int_info : (Tryz.prog.info? 3).map (fun i => (i.zero, i.size, i.bytes)) = some (some (Value.int .i64 0), 1, 8) := by kernel_rfl
section
variable {k : IntKind} {t : TypeId} {w w' : World} {base n c : Nat} {A : Option Addr} {v : Value} {xs : List Int}
end
section
variable {P : Program} {k : IntKind} {t e : TypeId} {i : TypeInfo}
/-- append onto a row of the call's own, whatever its numbers' bytes. -/
theorem run_app {w : World} {base lo : Nat} {B : Option Addr} {m d : Nat} {ys : List Int} {A : Option Addr} {n c : Nat} {xs : List Int} (ht : P.underlying t = some (.slice e)) (hi : P.info? e = some i) (hz : i.zero = some (.int k 0)) (hsize : i.size = 1) (hby : i.bytes ≤ 8)
    (hown : Ri k e w base (.slice B m d) m ys) (h : IS k lo w A n c xs) (hn : m + n ≤ 65536) (hbase : base ≤ w.heap.size) (ty : TypeId) :
    ∃ A' c' w', (Builtin.append_ #[t, t] ty #[.slice B m d, .slice A n c]).run P w = .ok (.slice A' (m + n) c') w' ∧ Ri k e w' base (.slice A' (m + n) c') (m + n) (ys ++ xs) ∧ Below base w w' := by
  have hl := h.len
  rcases A with _ | ad
  · obtain rfl := h.nil_ rfl
    obtain rfl : n = 0 := by have := h.cap; omega
    obtain rfl : xs = [] := List.eq_nil_of_length_eq_zero hl
    have hr := run_append_owned_none (P := P) w base t ty e i 1 ht hi _ m (ys.map (iv k)) hown
    exact ⟨B, d, w, hr, by rw [List.append_nil]; exact hown, Below.refl _ _⟩
  · have hcells : ∀ j u, (xs.map (iv k))[j]? = some u → w.cell? (ad.add j) = some u := by
      intro j u hu
      rcases Nat.eq_zero_or_pos n with h0 | h0
      · subst h0
        obtain rfl : xs = [] := List.eq_nil_of_length_eq_zero hl
        simp at hu
      · obtain ⟨ad', e', hc⟩ := h.src h0
        injection e' with e'
        subst e'
        exact hc j u hu
    have hb : (m + n) * i.bytes ≤ 140737488355328 := Nat.le_trans (Nat.mul_le_mul hn hby) (by omega)
    obtain ⟨v', w', hrun, h2, h3, _, h5⟩ := run_append_own_at (P := P) w base t ty e i _ 1 i.bytes ht hi hz hsize rfl rfl (by omega) _ m (ys.map (iv k)) hown ad n c (xs.map (iv k)) (by simp [hl]) hcells (iv_one k xs) (by unfold maxLen; omega) hb hbase
    rw [← List.map_append] at h2
    obtain ⟨A', c', rfl, _⟩ := IS.of_own h2
    exact ⟨A', c', w', hrun, h2, (Below.refl _ _).grown h3 hbase (own_ge hown)⟩
/-- append of one number that has just been laid. -/
theorem run_app1 {w : World} {base : Nat} {B : Option Addr} {m d : Nat} {ys : List Int} {x : Int} (ht : P.underlying t = some (.slice e)) (hi : P.info? e = some i) (hz : i.zero = some (.int k 0)) (hsize : i.size = 1) (hby : i.bytes ≤ 8)
    (hown : Ri k e w base (.slice B m d) m ys) (hn : m + 1 ≤ 65536) (hbase : base ≤ w.heap.size) (ty : TypeId) :
    ∃ A' c' w', (Builtin.append_ #[t, t] ty #[.slice B m d, .slice (some ⟨w.heap.size, 0, none⟩) 1 1]).run P (w.alloc (.cells #[.int k x] e)) = .ok (.slice A' (m + 1) c') w' ∧ Ri k e w' base (.slice A' (m + 1) c') (m + 1) (ys ++ [x]) ∧ Below base w w' := by
  have K0 := below_alloc w (.cells #[.int k x] e)
  have hs := gone (k := k) (w := w.alloc (.cells #[.int k x] e)) (x := x) (g := w.heap.size) (cell_new w _ _) (by unfold maxLen; omega)
  obtain ⟨A', c', w', hr, O, G⟩ := run_app ht hi hz hsize hby (hown.below K0) hs hn (Nat.le_trans hbase K0.size) ty
  exact ⟨A', c', w', hr, O, (K0.mono hbase).trans G⟩
end
end Go.Proofs.YtghecdccdmeooaaGreat

/-
  What Addrs of package model, and the document's, answer of a set that may be: its addresses; the program's lie in new memory; nothing that was there is otherwise. Conditions: offsets from 0 to 65536.
-/
namespace Go.Proofs.YtghecdccdmeooaaGreat
set_option maxRecDepth 100000
open Go.RowKit
/-- The block g is just these numbers. -/
def Bi (k : IntKind) (w : World) (g : Nat) (t : TypeId) (xs : List Int) : Prop := Bk w g t (xs.map (iv k)).toArray
section
variable {k : IntKind} {w w' : World} {g : Nat} {t : TypeId} {xs : List Int}
theorem Bi.cell (h : Bi k w g t xs) {i : Nat} (hi : i < xs.length) : w.cell? ⟨g, i, none⟩ = some (.int k (gi xs i)) := by
  refine Bk.at_ h i ?_
  rw [gi_at hi]
  simp [iv, hi]
theorem Bi.below (h : Bi k w g t xs) (K : Below w.heap.size w w') : Bi k w' g t xs := Bk.below h K
theorem Bi.set_ (h : Bi k w g t xs) (i : Nat) (v : Int) : Bi k (w.setCell ⟨g, i, none⟩ (.int k v)) g t (xs.set i v) := by
  have := Bk.set_ h i (.int k v)
  unfold Bi
  rw [List.map_set]
  simpa [iv] using this
theorem Bi.is {n : Nat} (h : Bi k w g t xs) (hn : xs.length = n) (hm : n ≤ 65536) : IS k 0 w (some ⟨g, 0, none⟩) n n xs :=
  ⟨hn, Nat.le_refl _, by unfold maxLen; omega, (fun e => by cases e), fun _ => ⟨g, 0, rfl, Nat.zero_le _, Bk.lt h, fun j hj => by rw [Nat.zero_add]; exact h.cell (by omega)⟩⟩
theorem Bi.of_made {base n : Nat} (h : w.ownsRow base t 1 (.slice (some ⟨g, 0, none⟩) n n) n (madeCells (Value.int k 0).cells (n * 1)).toList) : Bi k w g t (List.replicate n 0) := by
  rcases h.2 with ⟨hv, _⟩ | ⟨g', cap, cur, hv, hb, hh, hnc, hcm, hcs, ht⟩
  · cases hv
  · injection hv with h1 h2 h3
    injection h1 with h1
    injection h1 with h1
    subst h1; subst h3
    unfold Bi Bk
    rw [hh]
    have e : cur.toList = (madeCells (Value.int k 0).cells (n * 1)).toList := by
      rw [← ht, List.take_of_length_le (by simp; omega)]
    have e2 : (madeCells (Value.int k 0).cells (n * 1)).toList = (List.replicate n 0).map (iv k) := by
      simp only [madeCells, Value.cells, iv, Nat.mul_one, Array.toList_map, Array.toList_range, List.map_replicate]
      apply List.ext_getElem (by simp)
      intro i h1 h2
      have e1 : i % 1 = 0 := by omega
      simp [e1]
    have e3 : cur = ((List.replicate n 0).map (iv k)).toArray := by rw [← e2, ← e]
    rw [e3]
end
/-- An offset's address. -/
def ad (a : Nat) (x : Int) : Int := ((a + x.toNat) % 4294967296 : Nat)
def ads (a : Nat) (xs : List Int) : List Int := xs.map (ad a)
section
variable {w : World} {lo a M : Nat} {p sh wo qu tr : Int} {A B : Option Addr} {n c m d : Nat} {xs : List Int}
end
end Go.Proofs.YtghecdccdmeooaaGreat

/-
  What the document's own Of and With answer, in new memory.
-/
namespace Go.Proofs.YtghecdccdmeooaaGreat
set_option maxRecDepth 100000
open Go.RowKit
def RetIN (k : IntKind) (xs : List Int) (w : World) (e : Ending) (w' : World) : Prop := ∃ A n c, e = .returned (.slice A n c) ∧ IS k w.heap.size w' A n c xs ∧ Below w.heap.size w w'
section
variable {w : World} {lo lo' : Nat} {A A' : Option Addr} {n n' c c' : Nat} {xs : List Int}
end
section
variable {w : World} {lo lo2 a M : Nat} {p sh wo qu tr : Int} {A B : Option Addr} {n c m d : Nat} {zs xs : List Int} {ys : List Nat}
set_option maxHeartbeats 1000000 in
theorem rof_new (hM : Much a p M) (h : IS .i64 lo w A n c zs) (hn : n ≤ 65536) (hU : US w B m d ys) (hm : lv M ≤ m) (_hm2 : m ≤ 65536) :
    Calls Tryz.prog 17 #[.agg #[.int .u32 a, .int .i64 p, .slice A n c, .int .i64 sh, .int .i64 wo, .int .i64 qu, .int .i64 tr], .slice B m d] w (RetIN .i64 (os (uf zs ys) M) w) := by
  have hMm := hM.most
  have h4 : M ≤ 32 * m := by have : M ≤ 32 * lv M := by unfold lv; omega
                             omega
  clear hm
  have K := below_alloc w (.cells #[.int .u32 a, .int .i64 p, .slice A n c, .int .i64 sh, .int .i64 wo, .int .i64 qu, .int .i64 tr] 27)
  have H := Bk.new w #[.int .u32 a, .int .i64 p, .slice A n c, .int .i64 sh, .int .i64 wo, .int .i64 qu, .int .i64 tr] 27
  replace h := h.below K
  replace hU := hU.below K
  go_enter Tryz.func17, Tryz.ntmps17
  go_upto_region 1 with (fail)
  generalize w.alloc (.cells #[.int .u32 a, .int .i64 p, .slice A n c, .int .i64 sh, .int .i64 wo, .int .i64 qu, .int .i64 tr] 27) = w2 at H K h hU ⊢
  have hw2 : w.heap.size ≤ w2.heap.size := K.size
  generalize w.heap.size = g at H ⊢
  go_wp2
  go_loopw [5, 6] (fun s i wr => ∃ (k q e : Nat) (C : Option Addr), k ≤ M ∧ i = .int .i64 k ∧ s = .slice C q e ∧ Hid (Ri .i64 3 wr w2.heap.size (.slice C q e) q (os (uf zs ys) k)) ∧ Below w2.heap.size w2 wr) (fun _ i _ => M - (intOf i).toNat)
  case atStart => exact ⟨0, 0, 0, none, Nat.zero_le _, rfl, rfl, Lib.hid (Ri.nil _ _), Below.refl _ _⟩
  case round =>
    obtain ⟨k, q, e, C, hk, rfl, rfl, HR, Kr⟩ := hrel
    replace H := H.below Kr
    replace h := h.below Kr
    replace K := Below.then_ K Kr
    replace HR := HR.out
    have H_0 := H.at_ (v := .int .u32 a) 0 rfl
    have H_1 := H.at_ (v := .int .i64 p) 1 rfl
    have H_z := H.lt
    go_wp2_with fail
    refine (rmany_yes hM).mono ?_
    rintro e w3 ⟨rfl, K'⟩
    clear H_0 H_1 H_z
    replace HR := HR.below K'
    replace H := H.below K'
    replace h := h.below K'
    replace K := Below.then_ K K'
    replace Kr := Below.then_ Kr K'
    clear K'
    by_cases hlt : k < M
    · have hql := HR.len
      have hq := len_os (uf zs ys) k
      rw [hql] at hq
      obtain ⟨l, hl⟩ : ∃ l : Nat, (k : Int) / 32 = l := ⟨k / 32, by omega⟩
      obtain ⟨r, hr⟩ : ∃ r : Nat, (k : Int) % 32 = r := ⟨k % 32, by omega⟩
      have hl2 : l = k / 32 := by omega
      have hr2 : r = k % 32 := by omega
      have hr3 : r < 64 := by omega
      have huf := Lib.hid (show uf zs ys k = ((gt ys l).testBit r && !hasB zs (k : Int)) by unfold uf; rw [← hl2, ← hr2])
      obtain ⟨bb, oo, rfl, _, hc⟩ := (hU.below Kr).get (j := l) (by omega)
      have T1 := fun w => Lib.hid (rhas_any (gt ys l) r (gt_lt hU.fit l) hr3 w)
      have T2 := Lib.hid (rheld_any (a := a) (p := p) (sh := sh) (wo := wo) (qu := qu) (tr := tr) h hn (k : Int))
      clear hl2 hr2 hql
      generalize gt ys l = X at *
      have hv := huf.out
      clear huf
      cases h1 : X.testBit r with
      | false =>
        rw [h1, Bool.false_and] at hv
        rw [h1] at T1
        have HR2 := HR
        rw [← os_no hv] at HR2
        replace HR2 := Lib.hid HR2
        clear h1 hv HR T2
        go_wp2_with ((with_reducible refine ((T1 _).out).mono ?_); rintro e w' ⟨rfl, rfl⟩)
        go_roundw
        case rel => exact ⟨k + 1, q, _, C, by omega, by go_num, rfl, HR2, Kr⟩
        case measure => simp [intOf]; omega
      | true =>
        rw [h1] at T1
        have H_0 := H.at_ (v := .int .u32 a) 0 rfl
        have H_1 := H.at_ (v := .int .i64 p) 1 rfl
        have H_2 := H.at_ (v := .slice A n c) 2 rfl
        have H_3 := H.at_ (v := .int .i64 sh) 3 rfl
        have H_4 := H.at_ (v := .int .i64 wo) 4 rfl
        have H_5 := H.at_ (v := .int .i64 qu) 5 rfl
        have H_6 := H.at_ (v := .int .i64 tr) 6 rfl
        have H_z := H.lt
        cases h2 : hasB zs (k : Int) with
        | true =>
          rw [h1, h2] at hv
          rw [h2] at T2
          have HR2 := HR
          rw [← os_no (by rw [hv]; rfl)] at HR2
          clear h1 h2 hv HR
          go_wp2_with ((with_reducible refine ((T1 _).out).mono ?_); rintro e w' ⟨rfl, rfl⟩)
          refine (T2.out).mono ?_
          rintro e w4 ⟨rfl, K'⟩
          clear H_0 H_1 H_2 H_3 H_4 H_5 H_6 H_z
          replace HR2 := Lib.hid (HR2.below K')
          replace Kr := Below.then_ Kr K'
          clear K' T2 T1
          go_wp2
          go_roundw
          case rel => exact ⟨k + 1, q, _, C, by omega, by go_num, rfl, HR2, Kr⟩
          case measure => simp [intOf]; omega
        | false =>
          rw [h1, h2] at hv
          rw [h2] at T2
          have hos := Lib.hid (os_yes (f := uf zs ys) (k := k) (by rw [hv]; rfl))
          clear h1 h2 hv
          go_wp2_with ((with_reducible refine ((T1 _).out).mono ?_); rintro e w' ⟨rfl, rfl⟩)
          refine (T2.out).mono ?_
          rintro e w4 ⟨rfl, K'⟩
          clear H_0 H_1 H_2 H_3 H_4 H_5 H_6 H_z
          replace HR := HR.below K'
          replace Kr := Below.then_ Kr K'
          clear K' T2 T1
          obtain ⟨i0, hi, hz0, hz1, hz2⟩ := info_parts int_info
          obtain ⟨C2, e2, w5, hap, R5, K5⟩ := run_app1 (P := Tryz.prog) (x := (k : Int)) Tryz.underlying25 hi hz0 hz1 (by omega) HR (by omega) Kr.size 25
          have HA := Lib.hid hap
          rw [← hos.out] at R5
          have HR2 := Lib.hid R5
          have K6 := Kr.trans K5
          clear HR hap R5 K5 hi hz0 hz1 hz2 hos
          go_wp2_with (at_builtin; refine wpList_append_run rfl (.tmp 28) (.tmp 30) 25 rfl _ _ _ _ rfl rfl HA.out ?_)
          go_roundw
          case rel => exact ⟨k + 1, q + 1, e2, C2, by omega, by go_num, rfl, HR2, K6⟩
          case measure => simp [intOf]; omega
    · obtain rfl : k = M := by omega
      have I := Lib.hid ((HR.is).lower hw2)
      clear HR
      go_wp2
      go_ret
      exact ⟨_, _, _, rfl, I.out, K⟩
end
end Go.Proofs.YtghecdccdmeooaaGreat

/-
  A grant alone, and a grant between whatever others do: what is left to do, and what it comes to. No program in it.
-/
namespace Go.Proofs.YtghecdccdmeooaaGreat
set_option maxRecDepth 100000
set_option maxRecDepth 100000
open Go.RowKit
set_option linter.unusedVariables false
section
variable {a M ns N : Nat} {zs : List Int} {ys ys0 ys2 : List Nat} {s : Sc} {sn : List Nat}
/-- What a grant came to. -/
def Res (a M : Nat) (zs : List Int) (ys0 ys : List Nat) (s : Sc) : Prop :=
  (s.err = 0 ∧ ∃ o, o < M ∧ hasB zs (o : Int) = false ∧ (gt ys0 (o / 32)).testBit (o % 32) = false ∧ s.aad = ((a + o) % 4294967296 : Nat) ∧ ∀ i, i < lv M → gt ys i = gt (ys0.set (o / 32) (clm (gt ys0 (o / 32)) (o % 32))) i) ∨
  (s.err = 9 ∧ (∀ i, i < lv M → gt ys i = gt ys0 i) ∧ ∀ i, i < lv M → fl (gt ys0 i) = true)
theorem Res.same {ys' : List Nat} {s' : Sc} (h : Res a M zs ys0 ys s) (e1 : s'.err = s.err) (e2 : s'.aad = s.aad) (e3 : ∀ i, i < lv M → gt ys' i = gt ys i) : Res a M zs ys0 ys' s' := by
  rcases h with ⟨h1, o, h2, h3, h4, h5, h6⟩ | ⟨h1, h2, h3⟩
  · exact .inl ⟨e1.trans h1, o, h2, h3, h4, e2.trans h5, fun i hi => (e3 i hi).trans (h6 i hi)⟩
  · exact .inr ⟨e1.trans h1, fun i hi => (e3 i hi).trans (h2 i hi), h3⟩
theorem ghd_of {X ns : Nat} (h : 1 ≤ ns) : ∃ hd : Nat, (X : Int) % (ns : Int) = (hd : Int) ∧ (X : Int).tmod (ns : Int) = (hd : Int) ∧ hd < ns :=
  ⟨X % ns, (Int.natCast_emod X ns).symm, by rw [Int.tmod_eq_emod_of_nonneg (by omega)]; exact (Int.natCast_emod X ns).symm, Nat.mod_lt _ h⟩
/-- A word, changed so often at most. -/
def Chd (n x y : Nat) : Prop := ∃ d, 1 ≤ d ∧ d ≤ n ∧ cg y = (cg x + d) % 4294967296
theorem Chd.ne {n x y : Nat} (hn : n < 4294967296) (hx : x < U64) (h : Chd n x y) : y ≠ x := by
  obtain ⟨d, h1, h2, h3⟩ := h
  intro e
  subst e
  have := cg_lt hx
  omega
/-- What others do changes a leaf once at most, and leaves what can't be free. -/
theorem dist_leaf (hM : M ≤ 65536) (hY : YI M zs ys) (hD : DistR M zs ys ys2) : YI M zs ys2 ∧ ∀ i, i < lv M → gt ys2 i = gt ys i ∨ cg (gt ys2 i) = (cg (gt ys i) + 1) % 4294967296 := by
  have bits : ∀ o b, o < M → hasB zs (o : Int) = false → nf M zs (o / 32) b = true → b ≠ o % 32 := fun o b ho hh hn e => by
    subst e
    unfold nf at hn
    rw [show 32 * (o / 32) + o % 32 = o by omega, hh, Bool.or_false, decide_eq_true_eq] at hn
    omega
  rcases hD with ⟨o, h1, h2, h3, rfl⟩ | ⟨o, h1, h2, h3, rfl⟩ | ⟨i, W, h1, h2, rfl⟩ | rfl
  · have hi : o / 32 < lv M := by unfold lv; omega
    refine ⟨hY.leaf hi (drp_lt _ _) fun b hb hn => ?_, fun i hi' => ?_⟩
    · rw [drp_bit (gt_lt hY.fit _) (Nat.mod_lt _ (by omega)) hb, hY.top _ b hi hb hn]
      have := bits o b h1 h2 hn
      simp; omega
    · rw [gt_set (by have := hY.len; omega)]
      split
      · rename_i e; subst e; exact .inr (cg_drp (gt_lt hY.fit _) (Nat.mod_lt _ (by omega)))
      · exact .inl rfl
  · have hi : o / 32 < lv M := by unfold lv; omega
    refine ⟨hY.leaf hi (clm_lt _ _) fun b hb hn => ?_, fun i hi' => ?_⟩
    · rw [clm_bit _ _ hb, hY.top _ b hi hb hn]; rfl
    · rw [gt_set (by have := hY.len; omega)]
      split
      · rename_i e; subst e; exact .inr (cg_clm _ (Nat.mod_lt _ (by omega)))
      · exact .inl rfl
  · exact ⟨hY.sum h1 h2, fun j hj => .inl (gt_sum h1 hj)⟩
  · exact ⟨hY, fun j hj => .inl rfl⟩
/-- The first cells. -/
theorem yi_start : YI M zs (cl (nw M zs) (lv M) (tv M) (lv M)) ∧ os (uf zs (cl (nw M zs) (lv M) (tv M) (lv M))) M = [] := by
  have hg : ∀ i, i < lv M → gt (cl (nw M zs) (lv M) (tv M) (lv M)) i = nw M zs i := fun i hi => by
    rw [gt_cl (by omega)]
    unfold cel
    rw [if_pos hi, if_pos hi]
  refine ⟨⟨cl_len _ _ _ _, cl_fit (nw_lt M zs) _ _ _, fun i b hi hb hn => ?_⟩, ?_⟩
  · rw [hg i hi, nw_bit, hn, decide_eq_true hb]; rfl
  · refine (ris_os _ _).ext Ris.nil fun z => ⟨fun h => ?_, fun h => by cases h⟩
    obtain ⟨i, hi, hu, _⟩ := mem_os.1 h
    unfold uf at hu
    rw [hg (i / 32) (by unfold lv; omega), nw_bit] at hu
    unfold nf at hu
    rw [show 32 * (i / 32) + i % 32 = i by omega, decide_eq_false (by omega : ¬ M ≤ i)] at hu
    simp at hu
    rw [hu.1.2] at hu
    exact absurd hu.2 (by simp)
end
end Go.Proofs.YtghecdccdmeooaaGreat

/-
  The anchor of layer 17's laws answers true.
-/
namespace Go.Proofs.YtghecdccdmeooaaGreat
set_option maxRecDepth 100000
set_option maxRecDepth 100000
open Go.RowKit
set_option linter.unusedVariables false
theorem much30 : Much 4 30 4 := ⟨by decide +kernel, by decide +kernel⟩
/-- The grant of the anchor, step by step: the cells, the operation, what it has seen. -/
def aw : Nat → List Nat × Sc × List Nat
  | 0 => (cl (nw 4 []) (lv 4) (tv 4) (lv 4), gS0 0, [])
  | j + 1 => (gC 4 (aw j).1 (aw j).2.1, gS 4 4 1 (aw j).1 (aw j).2.1 (aw j).2.2, gN 4 (aw j).1 (aw j).2.1 (aw j).2.2)
theorem aw_inv : ∀ j, GI 4 1 [] j (aw j).2.1 (aw j).2.2 ∧ YI 4 [] (aw j).1
  | 0 => ⟨gi_start (by omega) (by omega), yi_start.1⟩
  | j + 1 => gi_step (by omega) (by omega) (by omega) (aw_inv j).1 (aw_inv j).2
theorem aw_go : ∀ j, j < 4 → (aw j).2.1.phase ≠ 0 ∧ gB 4 (aw j).1 (aw j).2.1 (aw j).2.2 = decide (j = 3)
  | 0, _ => by decide +kernel
  | 1, _ => by decide +kernel
  | 2, _ => by decide +kernel
  | 3, _ => by decide +kernel
theorem aw_end : (aw 4).2.1.phase = 0 ∧ (aw 4).2.1.aad = 4 ∧ gt (aw 4).1 0 = 8589934577 := by decide +kernel
theorem aw_cells (w : World) : Calls Tryz.prog 11 #[.agg #[.int .u32 4, .int .i64 30, .slice none 0 0, .int .i64 1, .int .i64 1, .int .i64 1, .int .i64 1]] w (RetSM 3 (aw 0).1 w) :=
  wcells_new (a := 4) (M := 4) (lo := 0) (by omega) much30 (IS.none_ _ _ _) (by omega) (by decide +kernel)
theorem aw_step {w : World} {lo d : Nat} {B : Option Addr} {h : Hd} (j : Nat) (hj : j ≤ 60000) (hU : US w B 3 d (aw j).1) (hL : Lists lo w h (gl (aw j).2.2)) :
    Calls Tryz.prog 13 #[.agg #[.int .u32 4, .int .i64 30, .slice none 0 0, .int .i64 1, .int .i64 1, .int .i64 1, .int .i64 1], .slice B 3 d, .agg (opv h (aw j).2.1)] w (RetG (aw (j + 1)).2.1 (gl (aw (j + 1)).2.2) 3 (aw (j + 1)).1 (gB 4 (aw j).1 (aw j).2.1 (aw j).2.2) B w) :=
  gstep_any (a := 4) (M := 4) (ns := 1) (zs := []) (N := j) (wo := 1) (qu := 1) (tr := 1) (A := none) (n := 0) (c := 0) (by omega) much30 (by omega) (by omega) hj (aw_inv j).1 (aw_inv j).2 hU hL
def awE (j : Nat) : Nat := if j = 4 then 1 else 0
set_option maxHeartbeats 2000000 in
theorem awake_any (w : World) :
    Calls Tryz.prog 7 #[] w (RetBo true w) := by
  go_enter Tryz.func7, Tryz.ntmps7
  go_upto_region 1 with (fail)
  have L := Loc.start w
  go_upto_region 2 with (refine wpList_store_row rfl 27 (.tmp 1) (.tmp 11) rfl _ _ rfl (show _ = Value.agg (#[.int .u32 4, .int .i64 30, .slice none 0 0, .int .i64 1, .int .i64 1, .int .i64 1, .int .i64 1]) from rfl) _ _ (Bk.new _ _ _) cf_sz rfl (by simp [Value.oneCell']) ?_)
  try rw [World.setRow_alloc_new]
  replace L := (L).alloc #[.int .u32 4, .int .i64 30, .slice none 0 0, .int .i64 1, .int .i64 1, .int .i64 1, .int .i64 1] 27
  try simp only [World.size_alloc] at L
  try dsimp only [nput] at L
  generalize (w).alloc (.cells #[.int .u32 4, .int .i64 30, .slice none 0 0, .int .i64 1, .int .i64 1, .int .i64 1, .int .i64 1] 27) = w1 at L ⊢
  generalize w.heap.size = gC at L ⊢
  go_wp2_with (refine wpList_load_row rfl 27 (.tmp 1) rfl gC rfl _ _ (0, 0) _ (L.bk_ 0 rfl) Tryz.underlying27 rfl cf_sz ?_)
  refine (aw_cells _).mono ?_
  rintro e w2 ⟨gU, dU, rfl, U, hgU, K'⟩
  have Lb := L.lts
  replace L := L.over K'
  replace L := L.us_av (fun i b e b' o e' => by injection e' with e'; injection e' with e1; have := Lb i b e; omega) U
  clear Lb
  try dsimp only [lF, List.cons_append, List.nil_append] at L
  clear U hgU
  go_wp2_with fail
  refine (gbegin_any 0).mono ?_
  rintro e w3 ⟨rfl, K'⟩
  replace L := L.over K'
  go_upto_region 4 with (refine wpList_store_row rfl 40 (.tmp 3) (.tmp 14) rfl _ _ rfl (show _ = Value.agg (opv hd0 (gS0 0)) from rfl) _ _ (Bk.new _ _ _) op_sz rfl (opv_one _ _) ?_)
  try rw [World.setRow_alloc_new]
  replace L := (L).alloc (opv hd0 (gS0 0)) 40
  try simp only [World.size_alloc] at L
  try dsimp only [nput] at L
  generalize (w3).alloc (.cells (opv hd0 (gS0 0)) 40) = w4 at L ⊢
  generalize w3.heap.size = gO at L ⊢
  go_wp2
  replace L := L.gf0
  go_loopw [2, 4, 5, 6] (fun lv_ ev pv iv wr => ∃ (j : Nat) (h : Hd) (B : Option Addr) (d : Nat), j ≤ 4 ∧ lv_ = .slice B 3 d ∧ ev = .int .i64 (awE j : Nat) ∧ pv = .int .i64 (j : Nat) ∧ iv = .int .i64 (j : Nat) ∧ Loc w wr [(gO, 40, opv h (aw j).2.1), (gC, 27, #[.int .u32 4, .int .i64 30, .slice none 0 0, .int .i64 1, .int .i64 1, .int .i64 1, .int .i64 1])] [gF h (aw j).2.2, uF B 3 d (aw j).1]) (fun _ _ _ iv _ => 9 - (intOf iv).toNat)
  case atStart => exact ⟨0, hd0, _, _, by omega, rfl, rfl, rfl, rfl, L⟩
  case round =>
    clear L
    obtain ⟨j, h, B, d, hj, rfl, rfl, rfl, rfl, L⟩ := hrel
    by_cases hlt : j < 4
    · by_cases h3 : j = 3
      · have T := fun w lo h B d U H => Lib.hid (aw_step (w := w) (lo := lo) (h := h) (B := B) (d := d) j (by omega) U H)
        obtain ⟨hp, hb⟩ := aw_go j hlt
        rw [decide_eq_true h3] at hb
        simp only [hb] at T
        clear hb
        obtain ⟨e0, he0⟩ : ∃ e0 : Nat, e0 = awE j := ⟨_, rfl⟩
        rw [← he0]
        obtain ⟨s, hs⟩ : ∃ s, s = (aw j).2.1 := ⟨_, rfl⟩
        obtain ⟨y, hy⟩ : ∃ y, y = (aw j).1 := ⟨_, rfl⟩
        obtain ⟨sn, hn⟩ : ∃ sn, sn = (aw j).2.2 := ⟨_, rfl⟩
        simp only [← hs, ← hy, ← hn] at T L hp
        obtain ⟨s2, hs2⟩ : ∃ s2, s2 = (aw (j + 1)).2.1 := ⟨_, rfl⟩
        obtain ⟨y2, hy2⟩ : ∃ y2, y2 = (aw (j + 1)).1 := ⟨_, rfl⟩
        obtain ⟨n2, hn2⟩ : ∃ n2, n2 = (aw (j + 1)).2.2 := ⟨_, rfl⟩
        simp only [← hs2, ← hy2, ← hn2] at T
        replace hs2 := Lib.hid hs2
        replace hy2 := Lib.hid hy2
        replace hn2 := Lib.hid hn2
        clear hs hy hn
        have hp1 : (s.phase != 0) = true := by simp [hp]
        have hj9 : (j : Int) < 9 := by omega
        have e1 : IntKind.i64.wrap ((j : Int) + 1) = (j : Int) + 1 := IntWalk.i64_in _ (by omega)
        have he2 : ((awE (j + 1) : Nat) : Int) = (e0 : Int) + 1 := by rw [he0]; unfold awE; subst h3; rfl
        replace he2 := Lib.hid he2
        clear he0 hp h3
        have e2 : IntKind.i64.wrap ((e0 : Int) + 1) = (e0 : Int) + 1 := IntWalk.i64_in _ (by have := he2.out; unfold awE at this; split at this <;> omega)
        have O_8 := L.at_ 0 8 rfl (v := .int .i64 s.phase) rfl
        have O_z := L.lt 0 rfl
        go_wp2_with (first | (refine wpList_load_row rfl 27 (.tmp 1) rfl gC rfl _ _ (0, 0) _ (L.bk_ 1 rfl) Tryz.underlying27 rfl cf_sz ?_) | (refine wpList_load_row rfl 40 (.tmp 3) rfl gO rfl _ _ (0, 0) _ (L.bk_ 0 rfl) Tryz.underlying40 rfl op_sz ?_))
        refine ((T _ _ _ _ _ (L.us_ 1 rfl) (L.gf_ 0 rfl)).out).mono ?_
        rintro e w5 ⟨h2, B2, d2, rfl, U, L', hA, K'⟩
        clear O_8 O_z
        have Lb := L.lts
        replace L := L.over K'
        replace L := L.us_av (fun i b e => hA b.1 (Lb i b e) (L.ap_ 1 rfl (by omega) i b e)) U
        replace L := L.gf Lb L'
        clear Lb
        try dsimp only [lF, List.cons_append, List.nil_append] at L
        clear U L' hA
        go_upto_region 10 with (refine wpList_store_row rfl 40 (.tmp 8) (.tmp 30) rfl _ _ rfl (show _ = Value.agg (opv h2 s2) from rfl) _ _ (Bk.new _ _ _) op_sz rfl (opv_one _ _) ?_)
        try rw [World.setRow_alloc_new]
        replace L := (L).alloc (opv h2 s2) 40
        try simp only [World.size_alloc] at L
        try dsimp only [nput] at L
        generalize (w5).alloc (.cells (opv h2 s2) 40) = w6 at L ⊢
        generalize w5.heap.size = gP at L ⊢
        go_upto_region 14 with (first | (refine wpList_load_row rfl 40 (.tmp 8) rfl gP rfl _ _ (0, 0) _ (L.bk_ 0 rfl) Tryz.underlying40 rfl op_sz ?_) | (refine wpList_store_row rfl 40 (.tmp 3) (.tmp 36) rfl gO _ rfl rfl _ _ (L.bk_ 1 rfl) op_sz rfl (opv_one _ _) ?_))
        replace L := (L.row 1 rfl (opv h2 s2))
        try dsimp only [nput] at L
        generalize (w6).setRow gO (opv h2 s2) = w7 at L ⊢
        go_wp2
        replace L := L.only (fs' := [gF h2 n2, uF B2 3 d2 y2]) (by simp)
        replace L := L.del 0
        dsimp only [ndel] at L
        go_roundw
        case rel => rw [hs2.out, hy2.out, hn2.out] at L; exact ⟨j + 1, h2, B2, d2, by omega, rfl, by rw [he2.out], by go_num, by go_num, L⟩
        case measure => simp [intOf]; omega
      · have T := fun w lo h B d U H => Lib.hid (aw_step (w := w) (lo := lo) (h := h) (B := B) (d := d) j (by omega) U H)
        obtain ⟨hp, hb⟩ := aw_go j hlt
        rw [decide_eq_false h3] at hb
        simp only [hb] at T
        clear hb
        obtain ⟨e0, he0⟩ : ∃ e0 : Nat, e0 = awE j := ⟨_, rfl⟩
        rw [← he0]
        obtain ⟨s, hs⟩ : ∃ s, s = (aw j).2.1 := ⟨_, rfl⟩
        obtain ⟨y, hy⟩ : ∃ y, y = (aw j).1 := ⟨_, rfl⟩
        obtain ⟨sn, hn⟩ : ∃ sn, sn = (aw j).2.2 := ⟨_, rfl⟩
        simp only [← hs, ← hy, ← hn] at T L hp
        obtain ⟨s2, hs2⟩ : ∃ s2, s2 = (aw (j + 1)).2.1 := ⟨_, rfl⟩
        obtain ⟨y2, hy2⟩ : ∃ y2, y2 = (aw (j + 1)).1 := ⟨_, rfl⟩
        obtain ⟨n2, hn2⟩ : ∃ n2, n2 = (aw (j + 1)).2.2 := ⟨_, rfl⟩
        simp only [← hs2, ← hy2, ← hn2] at T
        replace hs2 := Lib.hid hs2
        replace hy2 := Lib.hid hy2
        replace hn2 := Lib.hid hn2
        clear hs hy hn
        have hp1 : (s.phase != 0) = true := by simp [hp]
        have hj9 : (j : Int) < 9 := by omega
        have e1 : IntKind.i64.wrap ((j : Int) + 1) = (j : Int) + 1 := IntWalk.i64_in _ (by omega)
        have he2 : ((awE (j + 1) : Nat) : Int) = (e0 : Int) := by rw [he0]; unfold awE; rw [if_neg (by omega), if_neg (by omega)]
        replace he2 := Lib.hid he2
        clear he0 hp h3
        have O_8 := L.at_ 0 8 rfl (v := .int .i64 s.phase) rfl
        have O_z := L.lt 0 rfl
        go_wp2_with (first | (refine wpList_load_row rfl 27 (.tmp 1) rfl gC rfl _ _ (0, 0) _ (L.bk_ 1 rfl) Tryz.underlying27 rfl cf_sz ?_) | (refine wpList_load_row rfl 40 (.tmp 3) rfl gO rfl _ _ (0, 0) _ (L.bk_ 0 rfl) Tryz.underlying40 rfl op_sz ?_))
        refine ((T _ _ _ _ _ (L.us_ 1 rfl) (L.gf_ 0 rfl)).out).mono ?_
        rintro e w5 ⟨h2, B2, d2, rfl, U, L', hA, K'⟩
        clear O_8 O_z
        have Lb := L.lts
        replace L := L.over K'
        replace L := L.us_av (fun i b e => hA b.1 (Lb i b e) (L.ap_ 1 rfl (by omega) i b e)) U
        replace L := L.gf Lb L'
        clear Lb
        try dsimp only [lF, List.cons_append, List.nil_append] at L
        clear U L' hA
        go_upto_region 10 with (refine wpList_store_row rfl 40 (.tmp 8) (.tmp 30) rfl _ _ rfl (show _ = Value.agg (opv h2 s2) from rfl) _ _ (Bk.new _ _ _) op_sz rfl (opv_one _ _) ?_)
        try rw [World.setRow_alloc_new]
        replace L := (L).alloc (opv h2 s2) 40
        try simp only [World.size_alloc] at L
        try dsimp only [nput] at L
        generalize (w5).alloc (.cells (opv h2 s2) 40) = w6 at L ⊢
        generalize w5.heap.size = gP at L ⊢
        go_upto_region 14 with (first | (refine wpList_load_row rfl 40 (.tmp 8) rfl gP rfl _ _ (0, 0) _ (L.bk_ 0 rfl) Tryz.underlying40 rfl op_sz ?_) | (refine wpList_store_row rfl 40 (.tmp 3) (.tmp 36) rfl gO _ rfl rfl _ _ (L.bk_ 1 rfl) op_sz rfl (opv_one _ _) ?_))
        replace L := (L.row 1 rfl (opv h2 s2))
        try dsimp only [nput] at L
        generalize (w6).setRow gO (opv h2 s2) = w7 at L ⊢
        go_wp2
        replace L := L.only (fs' := [gF h2 n2, uF B2 3 d2 y2]) (by simp)
        replace L := L.del 0
        dsimp only [ndel] at L
        go_roundw
        case rel => rw [hs2.out, hy2.out, hn2.out] at L; exact ⟨j + 1, h2, B2, d2, by omega, rfl, by rw [he2.out], by go_num, by go_num, L⟩
        case measure => simp [intOf]; omega
    · obtain rfl : j = 4 := by omega
      obtain ⟨q1, q2, q3⟩ := aw_end
      obtain ⟨e0, he0⟩ : ∃ e0 : Nat, e0 = awE 4 := ⟨_, rfl⟩
      rw [← he0]
      obtain ⟨s, hs⟩ : ∃ s, s = (aw 4).2.1 := ⟨_, rfl⟩
      obtain ⟨y, hy⟩ : ∃ y, y = (aw 4).1 := ⟨_, rfl⟩
      obtain ⟨sn, hn⟩ : ∃ sn, sn = (aw 4).2.2 := ⟨_, rfl⟩
      simp only [← hs, ← hy, ← hn] at L q1 q2 q3
      clear hs hy hn
      have hp1 : (s.phase != 0) = false := by rw [q1]; rfl
      obtain rfl : e0 = 1 := he0
      clear hlt hj
      obtain ⟨bb, oo, hBe, hbb, hcc⟩ := (L.us_ 1 rfl).get (show 0 < 3 by omega)
      subst hBe
      have hX : wr.cell? ⟨bb, oo, none⟩ = some (.int .u64 8589934577) := by rw [Nat.add_zero, q3] at hcc; exact hcc
      clear hcc q3
      have O_8 := L.at_ 0 8 rfl (v := .int .i64 s.phase) rfl
      have O_z := L.lt 0 rfl
      have O_4 := L.at_ 0 4 rfl (v := .int .u32 4) (by show some (Value.int .u32 s.aad) = _; rw [q2])
      have O_8 := L.at_ 0 8 rfl (v := .int .i64 0) (by show some (Value.int .i64 s.phase) = _; rw [q1])
      have O_z := L.lt 0 rfl
      have X := hX
      go_wp2_with fail
      clear O_8 O_z O_4 X
      go_ret
      exact ⟨rfl, L.K⟩
end Go.Proofs.YtghecdccdmeooaaGreat

/-
  What the document's Rest, Range and Of of layer 12 answer. Conditions: numbers that fit, shards that there are.
-/
namespace Go.Proofs.YtghecdccdmeooaaGreat
set_option maxRecDepth 100000
open Go.RowKit
set_option linter.unusedVariables false
theorem rest_any (x p : Nat) (h1 : 1 ≤ p) (h2 : p ≤ 64) (hx : x ≤ 4000000) (w : World) :
    Calls Tryz.prog 109 #[.int .i64 (x : Int), .int .i64 (p : Int)] w fun e w' => e = .returned (.int .i64 ((x % p : Nat))) ∧ w = w' := by
  have e1 := (Int.natCast_ediv x p).symm
  have k1 := Nat.div_le_self x p
  have k2 := Nat.div_mul_le_self x p
  have e2 : ((x / p : Nat) : Int) * (p : Int) = ((x / p * p : Nat) : Int) := (Int.natCast_mul _ _).symm
  have k3 : (x : Int) - ((x / p * p : Nat) : Int) = ((x % p : Nat) : Int) := by have := Nat.div_add_mod x p; rw [Nat.mul_comm] at this; omega
  have hp0 : ¬ ((p : Int) = 0) := by omega
  generalize x % p = r at *
  generalize hm : x / p * p = mm at *
  generalize x / p = q at *
  replace hm := Lib.hid hm
  have hr : r ≤ 4000000 := by omega
  go_enter Tryz.func109, Tryz.ntmps109
  go_wp2
  go_ret
  exact ⟨ret_int (by go_num), rfl⟩
set_option maxHeartbeats 2000000 in
theorem rrange_any (n p s : Nat) (hn : n ≤ 65536) (h1 : 1 ≤ p) (h2 : p ≤ 64) (hs : s < p) (w : World) :
    Calls Tryz.prog 108 #[.int .i64 (n : Int), .int .i64 (p : Int), .int .i64 (s : Int)] w (RetII (ct (lv n) p s) (ct (lv n) p (s + 1)) w) := by
  have T0 := fun w => Lib.hid (rleaves_any n hn w)
  have hL := lv_le hn
  generalize lv n = L at *
  have hA : s * L ≤ 64 * 2048 := Nat.mul_le_mul (by omega) hL
  have hB : (s + 1) * L ≤ 64 * 2048 := Nat.mul_le_mul (by omega) hL
  have e1 : (s : Int) * L = (s * L : Nat) := (Int.natCast_mul s L).symm
  have e2 : ((s : Int) + 1) * L = ((s + 1) * L : Nat) := (Int.natCast_mul (s + 1) L).symm
  have m1 := (Int.natCast_emod (s * L) p).symm
  have m2 := (Int.natCast_emod ((s + 1) * L) p).symm
  have d1 : (s * L - s * L % p) / p = s * L / p := by
    have := Nat.div_add_mod (s * L) p
    have e : s * L - s * L % p = p * (s * L / p) := by omega
    rw [e]; exact Nat.mul_div_cancel_left _ h1
  have d2 : ((s + 1) * L - (s + 1) * L % p) / p = (s + 1) * L / p := by
    have := Nat.div_add_mod ((s + 1) * L) p
    have e : (s + 1) * L - (s + 1) * L % p = p * ((s + 1) * L / p) := by omega
    rw [e]; exact Nat.mul_div_cancel_left _ h1
  have l1 := Nat.mod_le (s * L) p
  have l2 := Nat.mod_le ((s + 1) * L) p
  have f1 : ((s * L : Nat) : Int) - ((s * L % p : Nat) : Int) = ((s * L - s * L % p : Nat) : Int) := by omega
  have f2 : (((s + 1) * L : Nat) : Int) - (((s + 1) * L % p : Nat) : Int) = (((s + 1) * L - (s + 1) * L % p : Nat) : Int) := by omega
  have g1 := (Int.natCast_ediv (s * L - s * L % p) p).symm
  have g2 := (Int.natCast_ediv ((s + 1) * L - (s + 1) * L % p) p).symm
  have k1 := Nat.div_le_self (s * L) p
  have k2 := Nat.div_le_self ((s + 1) * L) p
  rw [d1] at g1
  rw [d2] at g2
  have hp0 : ¬ ((p : Int) = 0) := by omega
  unfold ct
  generalize s * L / p = q at *
  generalize (s + 1) * L / p = q' at *
  generalize s * L - s * L % p = u at *
  generalize (s + 1) * L - (s + 1) * L % p = u' at *
  generalize s * L % p = r at *
  generalize (s + 1) * L % p = r' at *
  generalize s * L = m at *
  generalize (s + 1) * L = m' at *
  clear d1 d2
  have m1' : (m : Int).tmod (p : Int) = (r : Int) := by rw [Int.tmod_eq_emod_of_nonneg (by omega)]; exact m1
  have m2' : (m' : Int).tmod (p : Int) = (r' : Int) := by rw [Int.tmod_eq_emod_of_nonneg (by omega)]; exact m2
  have g1' : (u : Int).tdiv (p : Int) = (q : Int) := by rw [Int.tdiv_eq_ediv_of_nonneg (by omega)]; exact g1
  have g2' : (u' : Int).tdiv (p : Int) = (q' : Int) := by rw [Int.tdiv_eq_ediv_of_nonneg (by omega)]; exact g2
  go_enter Tryz.func108, Tryz.ntmps108
  go_wp2_with ((with_reducible refine ((T0 _).out).mono ?_); rintro e w' ⟨rfl, rfl⟩)
  go_region
  go_wp2
  go_ret2
  exact ⟨rfl, (Below.refl _ _).drew⟩
end Go.Proofs.YtghecdccdmeooaaGreat

/-
  What the document's steps of a grant answer, as propositions; the mathematics of its loops. No program in it.
-/
namespace Go.Proofs.YtghecdccdmeooaaGreat
set_option maxRecDepth 100000
set_option maxRecDepth 100000
open Go.RowKit
set_option linter.unusedVariables false
/-- Where a header's Seen lies: in the one that came in, or in new memory. -/
def SA (h h' : Hd) (w : World) : Prop := ∀ k, k < w.heap.size → (0 < h.n3 → Apart k h.A3) → 0 < h'.n3 → Apart k h'.A3
def RetRG (s : Sc) (l : Ls) (m : Nat) (ys : List Nat) (b : Bool) (h : Hd) (B0 : Option Addr) (w : World) (e : Ending) (w' : World) : Prop :=
  ∃ h' B d, e = .returned (.tuple #[.slice B m d, .agg (opv h' s), .bool b]) ∧ US w' B m d ys ∧ Lists 0 w' h' l ∧ (∀ k, k < w.heap.size → Apart k B0 → Apart k B) ∧ SA h h' w ∧ Below w.heap.size w w'
def RetRO (s : Sc) (l : Ls) (h : Hd) (w : World) (e : Ending) (w' : World) : Prop := ∃ h', e = .returned (.agg (opv h' s)) ∧ Lists 0 w' h' l ∧ SA h h' w ∧ Below w.heap.size w w'
def RetROB (s : Sc) (l : Ls) (b : Bool) (h : Hd) (w : World) (e : Ending) (w' : World) : Prop := ∃ h', e = .returned (.tuple #[.agg (opv h' s), .bool b]) ∧ Lists 0 w' h' l ∧ SA h h' w ∧ Below w.heap.size w w'
def RetRM (s : Sc) (h : Hd) (m : Nat) (ys : List Nat) (B0 : Option Addr) (w : World) (e : Ending) (w' : World) : Prop := ∃ B d, e = .returned (.tuple #[.slice B m d, .agg (opv h s)]) ∧ US w' B m d ys ∧ (∀ k, k < w.heap.size → Apart k B0 → Apart k B) ∧ Below w.heap.size w w'
section
variable {w w1 : World} {lo a m d M ns N hd k t tt lf cl b x : Nat} {p wo qu tr : Int} {A B : Option Addr} {n c : Nat} {zs : List Int} {sn ys : List Nat} {h : Hd} {s : Sc}
theorem wf_ofU64 {v : Nat} (h : v < U64) : (Lit.int .u64 (Int.ofNat v)).wf = true := by
  have h' : v < 18446744073709551616 := h
  simp [Lit.wf, IntKind.min, IntKind.max, IntKind.bits, IntKind.signed]; omega
theorem fit_all (hY : YI M zs ys) (j : Nat) : gt ys j < 18446744073709551616 := gt_lt hY.fit j
theorem Loc.gf_ap {w0 : World} {bs : List Bl} {fs : List Fct} (L : Loc w0 w bs fs) (H : Lists 0 w h (gl sn)) (hl : ∀ i b, nth bs i = some b → 0 < h.n3 → Apart b.1 h.A3) : Loc w0 w bs (gF h sn :: fs) :=
  L.add _ H gF_ok fun i b e hf => by
    obtain ⟨hn, o, e'⟩ := hf
    exact hl i b e hn b.1 o e' rfl
theorem apart3 {w0 : World} {bs : List Bl} {fs : List Fct} (hL : Lists lo w0 h (gl sn)) (hn : 0 < h.n3) (L : Loc w0 w bs fs) : ∀ i b, nth bs i = some b → Apart b.1 h.A3 := IS.apart0 hL.i3 hn L
theorem gl_emp (hL : Lists lo w h (gl [])) (lo' : Nat) (w' : World) : Lists lo' w' h (gl []) :=
  ⟨hL.i0.emp0 _ _, hL.i1.emp0 _ _, hL.i2.emp0 _ _, IS.emp0 (show IS .u64 lo w h.A3 h.n3 h.c3 [] from hL.i3) _ _⟩
theorem gl_none (hL : Lists lo w h (gl sn)) (lo' : Nat) (w' : World) : Lists lo' w' ⟨h.A0, h.n0, h.c0, h.A1, h.n1, h.c1, h.A2, h.n2, h.c2, none, 0, 0⟩ (gl []) :=
  ⟨hL.i0.emp0 _ _, hL.i1.emp0 _ _, hL.i2.emp0 _ _, IS.none_ _ _ _⟩
theorem sa_zero {h' : Hd} (hz : h'.n3 = 0) : SA h h' w := fun _ _ _ hn => absurd hn (by omega)
theorem sa_same {h' : Hd} (h1 : h'.A3 = h.A3) (h2 : h'.n3 = h.n3) : SA h h' w := fun k _ hA hn => by rw [h1]; exact hA (by omega)
theorem gl_row {lo2 : Nat} {w' : World} {A' : Option Addr} {n' c' y : Nat} (hL : Lists lo w h (gl sn)) (I : IS .u64 lo2 w' A' n' c' (sn.map Int.ofNat ++ [((y : Nat) : Int)])) : Lists 0 w' ⟨h.A0, h.n0, h.c0, h.A1, h.n1, h.c1, h.A2, h.n2, h.c2, A', n', c'⟩ (gl (sn ++ [y])) :=
  ⟨hL.i0.emp0 _ _, hL.i1.emp0 _ _, hL.i2.emp0 _ _, by
    have e : (gl (sn ++ [y])).ses = sn.map Int.ofNat ++ [((y : Nat) : Int)] := by unfold gl; simp
    rw [e]; exact I.lower (Nat.zero_le _)⟩
theorem sa_new {lo2 : Nat} {w' : World} {h' : Hd} {xs : List Int} (I : IS .u64 lo2 w' h'.A3 h'.n3 h'.c3 xs) (hlo : w.heap.size ≤ lo2) : SA h h' w := fun k hk _ hn b o e => by
  obtain ⟨b', o', e', hl, _, _⟩ := I.cells hn
  rw [e] at e'; injection e' with e'; injection e' with e1 e2; omega
theorem nxt_is {qa qb x u : Nat} (h1 : inT qa qb u = true) (h2 : t ≤ u) (h3 : x.testBit u = false) (h4 : ∀ v, t ≤ v → v < u → inT qa qb v = true → x.testBit v = true) : nxt qa qb t x = some u := by
  have i1 := of_decide_eq_true h1
  rcases nxt_cases qa qb t x with ⟨v, e, g1, g2, g3, g4, g5⟩ | ⟨e, g⟩
  · rw [e]
    rcases Nat.lt_trichotomy v u with hv | hv | hv
    · have := h4 v g3 hv (decide_eq_true ⟨g1, g2⟩)
      rw [g4] at this; cases this
    · rw [hv]
    · have := g5 u i1.1 hv h2
      rw [h3] at this; cases this
  · have := g u i1.1 i1.2 h2
    rw [h3] at this; cases this
theorem nxt_no {qa qb x : Nat} (h4 : ∀ v, t ≤ v → inT qa qb v = true → x.testBit v = true) : nxt qa qb t x = none := by
  rcases nxt_cases qa qb t x with ⟨v, e, g1, g2, g3, g4, g5⟩ | ⟨e, g⟩
  · have := h4 v g3 (decide_eq_true ⟨g1, g2⟩)
    rw [g4] at this; cases this
  · exact e
theorem inT_top {qa qb u : Nat} (hb : qb ≤ lv M) (h : inT qa qb u = true) : u < tv M := by
  have := cnt_top.1 (of_decide_eq_true h)
  unfold tv tq
  omega
theorem inT_in {qa qb u j : Nat} (h1 : qa ≤ j) (h2 : j < qb) (h3 : j / 64 = u) : inT qa qb u = true := decide_eq_true (cnt_top.2 ⟨by omega, by omega, by omega⟩)
theorem inT_not {qa qb u : Nat} (h : ∀ j, qa ≤ j → j < qb → j / 64 ≠ u) : inT qa qb u = false := by
  cases e : inT qa qb u with
  | false => rfl
  | true =>
    have i := cnt_top.1 (of_decide_eq_true e)
    by_cases hq : qa / 64 = u
    · exact absurd hq (h qa (Nat.le_refl _) i.1)
    · exact absurd (by omega) (h (64 * u) (by omega) (by omega))
theorem fre_is {qa qb x j : Nat} (h1 : qa ≤ j) (h2 : j < qb) (h3 : j / 64 = t) (h4 : x.testBit (j % 64) = false) (h5 : ∀ i, qa ≤ i → i < j → i / 64 = t → x.testBit (i % 64) = true) : fre qa qb x t = some j := by
  rcases fre_cases qa qb x t with ⟨i, e, g1, g2, g3, g4, g5⟩ | ⟨e, g⟩
  · rw [e]
    rcases Nat.lt_trichotomy i j with hv | hv | hv
    · have := h5 i g1 hv g3
      rw [g4] at this; cases this
    · rw [hv]
    · have := g5 j h1 hv h3
      rw [h4] at this; cases this
  · have := g j h1 h2 h3
    rw [h4] at this; cases this
theorem fre_no {qa qb x : Nat} (h5 : ∀ i, qa ≤ i → i < qb → i / 64 = t → x.testBit (i % 64) = true) : fre qa qb x t = none := by
  rcases fre_cases qa qb x t with ⟨i, e, g1, g2, g3, g4, g5⟩ | ⟨e, g⟩
  · have := h5 i g1 g2 g3
    rw [g4] at this; cases this
  · exact e
def topS (sh : Int) (qa qb x t : Nat) (s : Sc) : Sc := match fre qa qb x t with | some i => foundS s i | none => onS sh qa qb s
/-- A grant that marks marks full. -/
def Mf (s : Sc) : Prop := s.phase = 4 ∨ s.phase = 5 → s.full = true
end
end Go.Proofs.YtghecdccdmeooaaGreat

/-
  What the document's Step of layer 8 answers of a Grant that marks a full leaf. Conditions: a block that may be, as many cells as there are, a leaf that there is.
-/
namespace Go.Proofs.YtghecdccdmeooaaGreat
set_option maxRecDepth 100000
set_option maxRecDepth 100000
open Go.RowKit
set_option linter.unusedVariables false
section
variable {w w1 : World} {lo a m d M ns N hd k t tt lf cl b x : Nat} {p wo qu tr : Int} {A B : Option Addr} {n c : Nat} {zs : List Int} {sn ys : List Nat} {h : Hd} {s : Sc}
set_option maxHeartbeats 2000000 in
theorem rmk_04n (ha : a < 4294967296) (hM : Much a p M) (hL : Lists lo w h (gl [])) (hU : US w B m d ys) (hm : m = lv M + tv M + 1) (hk : s.kind = 1) (hit : s.item = 0) (hlf : s.leaf = (lf : Int)) (hlv : lf < lv M) (hw : s.word < 18446744073709551616) (hfu : s.full = true) (hcl : cl = lv M + lf / 64) (hb : b = lf % 64) (hat : s.at_ = 0) (hph : s.phase = 4) (hbit : (gt ys cl).testBit b = false) :
    Calls Tryz.prog 43 #[.agg #[.int .u32 (a : Int), .int .i64 p, .slice A n c, .int .i64 (ns : Int), .int .i64 wo, .int .i64 qu, .int .i64 tr], .slice B m d, .agg (opv h s)] w (RetRM (setp (worded s (gt ys cl))) h m ys B w) := by
  have hm9 := hM.most
  have hl3 := lv_le hm9
  have ht3 := tv_le hm9
  have hm6 : m ≤ 65536 := by omega
  have hb2 : b < 64 := by omega
  have hcm : cl < m := by unfold tv tq at *; omega
  obtain ⟨z0, z1, z2, z3⟩ := gl_len hL
  have TT := fun w => Lib.hid (rtop_any M lf hM.most (by omega) w)
  rw [← hcl, ← hb] at TT
  obtain ⟨bb, oo, hBe, hbb, hcc⟩ := hU.get hcm
  subst hBe
  have TH := fun w => Lib.hid (rhas_any (gt ys cl) b (gt_lt hU.fit cl) hb2 w)
  rw [hbit] at TH
  clear hbit
  obtain ⟨x, hx⟩ : ∃ x, x = gt ys cl := ⟨_, rfl⟩
  rw [← hx] at hcc TH ⊢
  clear hx
  have hcm2 : (cl : Int) < (m : Int) := by omega
  clear hcl hb hL z0 z1 z2 z3 hm9 hl3 ht3 hm ha
  rcases s with ⟨kind, addr, err, aad, used, phase, shard, sought, leaf, bit, word, full, at_, tries, item, stamp⟩
  rcases h with ⟨A0, n0, c0, A1, n1, c1, A2, n2, c2, A3, n3, c3⟩
  try dsimp only at *
  subst hk hit hlf hat hph hfu
  go_enter Tryz.func43, Tryz.ntmps43
  go_upto_region 1 with (fail)
  have L := Loc.start w
  replace L := (((L).alloc #[.int .u32 (a : Int), .int .i64 p, .slice A n c, .int .i64 (ns : Int), .int .i64 wo, .int .i64 qu, .int .i64 tr] 27).alloc (opv ⟨A0, n0, c0, A1, n1, c1, A2, n2, c2, A3, n3, c3⟩ ⟨1, addr, err, aad, used, 4, shard, sought, (lf : Int), bit, word, true, 0, tries, 0, stamp⟩) 40).alloc #[.int .i64 0, .int .u32 0, .slice none 0 0, .int .i64 0, .int .u32 0, .bool false, .slice none 0 0, .slice none 0 0, .int .i64 0, .int .i64 0, .int .i64 0, .int .i64 0, .int .i64 0, .int .u64 0, .bool false, .slice none 0 0, .int .i64 0, .int .i64 0, .int .i64 0, .int .i64 0] 40
  try simp only [World.size_alloc] at L
  replace L := L.is 0 (opv hd0 sc0) rfl
  try dsimp only [nput] at L
  generalize (((w).alloc (.cells #[.int .u32 (a : Int), .int .i64 p, .slice A n c, .int .i64 (ns : Int), .int .i64 wo, .int .i64 qu, .int .i64 tr] 27)).alloc (.cells (opv ⟨A0, n0, c0, A1, n1, c1, A2, n2, c2, A3, n3, c3⟩ ⟨1, addr, err, aad, used, 4, shard, sought, (lf : Int), bit, word, true, 0, tries, 0, stamp⟩) 40)).alloc (.cells #[.int .i64 0, .int .u32 0, .slice none 0 0, .int .i64 0, .int .u32 0, .bool false, .slice none 0 0, .slice none 0 0, .int .i64 0, .int .i64 0, .int .i64 0, .int .i64 0, .int .i64 0, .int .u64 0, .bool false, .slice none 0 0, .int .i64 0, .int .i64 0, .int .i64 0, .int .i64 0] 40) = w1 at L ⊢
  generalize w.heap.size + 1 + 1 = gR at L ⊢
  generalize w.heap.size + 1 = gO at L ⊢
  generalize w.heap.size = gH at L ⊢
  have H_0 := L.at_ 2 0 rfl (v := .int .u32 (a : Int)) rfl
  have H_1 := L.at_ 2 1 rfl (v := .int .i64 p) rfl
  have H_z := L.lt 2 rfl
  go_wp2_with fail
  refine (rmany_yes hM).mono ?_
  rintro e w2 ⟨rfl, K'⟩
  clear H_0 H_1 H_z
  replace L := L.over K'
  have O_11 := L.at_ 1 11 rfl (v := .int .i64 (lf : Int)) rfl
  have O_z := L.lt 1 rfl
  go_wp2_with fail
  refine ((TT _).out).mono ?_
  rintro e w' ⟨rfl, rfl⟩
  clear O_11 O_z
  have O_16 := L.at_ 1 16 rfl (v := .int .i64 0) rfl
  have O_8 := L.at_ 1 8 rfl (v := .int .i64 4) rfl
  have O_13 := L.at_ 1 13 rfl (v := .int .u64 ((word : Nat) : Int)) rfl
  have O_z := L.lt 1 rfl
  have O_f13 := L.fz 1 13 rfl
  have X := (L.K.cell (p := ⟨bb, oo + cl, none⟩) hbb).trans hcc
  go_upto_region 7 with fail
  clear O_16 O_8 O_13 O_z O_f13 X
  replace L := ((L.set 1 13 rfl (.int .u64 ((x : Nat) : Int))).is 1 (opv ⟨A0, n0, c0, A1, n1, c1, A2, n2, c2, A3, n3, c3⟩ ⟨1, addr, err, aad, used, 4, shard, sought, (lf : Int), bit, x, true, 0, tries, 0, stamp⟩) rfl)
  try dsimp only [nput] at L
  generalize (w2).setCell ⟨gO, 13, none⟩ (.int .u64 ((x : Nat) : Int)) = w3 at L ⊢
  replace L := L.drew
  refine wp_region_held_drew (S := fun w' => Loc w w' [(gR, 40, opv hd0 sc0), (gO, 40, opv ⟨A0, n0, c0, A1, n1, c1, A2, n2, c2, A3, n3, c3⟩ ⟨1, addr, err, aad, used, 4, shard, sought, (lf : Int), bit, x, true, 0, tries, 0, stamp⟩), (gH, 27, #[.int .u32 (a : Int), .int .i64 p, .slice A n c, .int .i64 (ns : Int), .int .i64 wo, .int .i64 qu, .int .i64 tr])] []) (by kernel_rfl) L (fun hHeld => ?_)
  generalize w3.drew = v4 at hHeld L ⊢
  refine wpAnyH_take (i := 0) (oi := ⟨some 40, _, _, _, _, _⟩) (v := .pointer (some ⟨gO, 13, none⟩)) rfl (by kernel_rfl) (by kernel_rfl) (by kernel_rfl) (fun _ _ _ h => h) (Or.inl ⟨by rfl, ?_⟩) hHeld ?_
  · (intro ww hS; go_simp; try with_reducible rfl; try omega)
  try simp only [Act.put, sA, sZ, sS]
  refine wpAnyH_take (i := 1) (oi := ⟨some 41, _, _, _, _, _⟩) (v := .int .u64 ((x : Nat) : Int)) rfl (by kernel_rfl) (by kernel_rfl) (by kernel_rfl) (fun _ _ _ h => h) (Or.inl ⟨by rfl, ?_⟩) hHeld ?_
  · intro ww hS
    try dsimp only at hS
    have O_13 := (hS).at_ 1 13 rfl (v := .int .u64 ((x : Nat) : Int)) rfl
    have O_z := (hS).lt 1 rfl
    go_simp
    try with_reducible rfl
    try omega
  try simp only [Act.put, sA, sZ, sS]
  refine wpAnyH_take (i := 2) (oi := ⟨some 42, _, _, _, _, _⟩) (v := .int .i64 (b : Int)) rfl (by kernel_rfl) (by kernel_rfl) (by kernel_rfl) (fun _ _ _ h => h) (Or.inl ⟨by rfl, ?_⟩) hHeld ?_
  · (intro ww hS; go_simp; try with_reducible rfl; try omega)
  try simp only [Act.put, sA, sZ, sS]
  refine wpAnyH_take (i := 4) (oi := ⟨some 44, _, _, _, _, _⟩) (v := .pointer (some ⟨gO, 14, none⟩)) rfl (by kernel_rfl) (by kernel_rfl) (by kernel_rfl) (fun _ _ _ h => h) (Or.inl ⟨by rfl, ?_⟩) hHeld ?_
  · (intro ww hS; go_simp; try with_reducible rfl; try omega)
  try simp only [Act.put, sA, sZ, sS]
  refine wpAnyH_take (i := 5) (oi := ⟨some 45, _, _, _, _, _⟩) (v := .bool true) rfl (by kernel_rfl) (by kernel_rfl) (by kernel_rfl) (fun _ _ _ h => h) (Or.inl ⟨by rfl, ?_⟩) hHeld ?_
  · intro ww hS
    try dsimp only at hS
    have O_14 := (hS).at_ 1 14 rfl (v := .bool true) rfl
    have O_z := (hS).lt 1 rfl
    go_simp
    try with_reducible rfl
    try omega
  try simp only [Act.put, sA, sZ, sS]
  refine wpAnyH_ready (rs := [3]) (by kernel_rfl) (by simp) ?_
  refine AllReadyH.cons (o := ⟨some 43, _, _, _, _, _⟩) rfl (fun K0 hK => ?_) AllReadyH.nil
  go_simp
  refine ((TH _).out).mono ?_
  rintro e w' ⟨rfl, rfl⟩
  refine hK.out _ _ L (fun hHeld' => ?_)
  clear hHeld hK K0
  have hHeld := hHeld'
  clear hHeld'
  try simp only [Act.put, sA, sZ, sS]
  refine wpAnyH_take (i := 6) (oi := ⟨some 46, _, _, _, _, _⟩) (v := .bool true) rfl (by kernel_rfl) (by kernel_rfl) (by kernel_rfl) (fun _ _ _ h => h) (Or.inl ⟨by rfl, ?_⟩) hHeld ?_
  · (intro ww hS; go_simp; try with_reducible rfl; try omega)
  try simp only [Act.put, sA, sZ, sS]
  refine wpAnyH_done (by kernel_rfl) ?_ _
  clear hHeld
  have O_8 := L.at_ 1 8 rfl (v := .int .i64 4) rfl
  have O_z := L.lt 1 rfl
  have O_f8 := L.fz 1 8 rfl
  go_upto_region 9 with fail
  clear O_8 O_z O_f8
  replace L := ((L.set 1 8 rfl (.int .i64 5)).is 1 (opv ⟨A0, n0, c0, A1, n1, c1, A2, n2, c2, A3, n3, c3⟩ ⟨1, addr, err, aad, used, 5, shard, sought, (lf : Int), bit, x, true, 0, tries, 0, stamp⟩) rfl)
  try dsimp only [nput] at L
  generalize (v4).setCell ⟨gO, 8, none⟩ (.int .i64 5) = w5 at L ⊢
  replace L := L.drew
  refine wp_region_held_drew (S := fun w' => ∃ v_R : Array Value, v_R.size = 20 ∧ Loc w w' [(gR, 40, v_R), (gO, 40, opv ⟨A0, n0, c0, A1, n1, c1, A2, n2, c2, A3, n3, c3⟩ ⟨1, addr, err, aad, used, 5, shard, sought, (lf : Int), bit, x, true, 0, tries, 0, stamp⟩), (gH, 27, #[.int .u32 (a : Int), .int .i64 p, .slice A n c, .int .i64 (ns : Int), .int .i64 wo, .int .i64 qu, .int .i64 tr])] []) (by kernel_rfl) (⟨_, rfl, L⟩) (fun hHeld => ?_)
  generalize w5.drew = v6 at hHeld L ⊢
  refine wpAnyH_take (i := 0) (oi := ⟨some 48, _, _, _, _, _⟩) (v := .slice (some ⟨bb, oo, none⟩) m d) rfl (by kernel_rfl) (by kernel_rfl) (by kernel_rfl) (fun _ _ _ h => h) (Or.inl ⟨by rfl, ?_⟩) hHeld ?_
  · (intro ww hS; go_simp; try with_reducible rfl; try omega)
  try simp only [Act.put, sA, sZ, sS]
  refine wpAnyH_take (i := 1) (oi := ⟨some 49, _, _, _, _, _⟩) (v := .agg (opv ⟨A0, n0, c0, A1, n1, c1, A2, n2, c2, A3, n3, c3⟩ ⟨1, addr, err, aad, used, 5, shard, sought, (lf : Int), bit, x, true, 0, tries, 0, stamp⟩)) rfl (by kernel_rfl) (by kernel_rfl) (by kernel_rfl) (fun _ _ _ h => h) (yieldsIf_load_row (by rfl) 40 (.tmp 5) rfl gO rfl 40 _ (0, 0) _ (fun _ hS => ((hS.choose_spec.2).bk_ 1 rfl)) Tryz.underlying40 rfl op_sz) hHeld ?_
  try simp only [Act.put, sA, sZ, sS]
  refine wpAnyH_take (i := 2) (oi := ⟨some 6, _, _, _, _, _⟩) (v := .slice (some ⟨bb, oo, none⟩) m d) rfl (by kernel_rfl) (by kernel_rfl) (by kernel_rfl) (fun _ _ _ h => h) (Or.inl ⟨by rfl, ?_⟩) hHeld ?_
  · (intro ww hS; go_simp; try with_reducible rfl; try omega)
  try simp only [Act.put, sA, sZ, sS]
  refine wpAnyH_ready (rs := [3]) (by kernel_rfl) (by simp) ?_
  refine AllReadyH.cons (o := ⟨none, _, _, _, _, _⟩) rfl (fun K0 hK => ?_) AllReadyH.nil
  rw [if_pos (by rfl)]
  refine wp_store_row 40 (.tmp 7) (.tmp 49) rfl gR _ rfl rfl _ _ (L.bk_ 0 rfl) op_sz rfl (opv_one _ _) ?_
  replace L := L.row 0 rfl (opv ⟨A0, n0, c0, A1, n1, c1, A2, n2, c2, A3, n3, c3⟩ ⟨1, addr, err, aad, used, 5, shard, sought, (lf : Int), bit, x, true, 0, tries, 0, stamp⟩)
  try dsimp only [nput] at L
  refine hK.out _ _ ⟨_, rfl, L⟩ (fun hHeld' => ?_)
  clear hHeld hK K0
  have hHeld := hHeld'
  clear hHeld'
  generalize v6.setRow gR (opv ⟨A0, n0, c0, A1, n1, c1, A2, n2, c2, A3, n3, c3⟩ ⟨1, addr, err, aad, used, 5, shard, sought, (lf : Int), bit, x, true, 0, tries, 0, stamp⟩) = v7 at hHeld L ⊢
  try simp only [Act.put]
  refine wpAnyH_done (by kernel_rfl) ?_ _
  clear hHeld
  go_wp2
  refine bodyPost_ret (v := .tuple #[.slice (some ⟨bb, oo, none⟩) m d, .agg (opv ⟨A0, n0, c0, A1, n1, c1, A2, n2, c2, A3, n3, c3⟩ ⟨1, addr, err, aad, used, 5, shard, sought, (lf : Int), bit, x, true, 0, tries, 0, stamp⟩)]) ?_ rfl ?_
  · exact results_tc (fn := Tryz.f43) Tryz.results43 _ _ gR _ _ (0, 0) _ rfl (L.bk_ 0 rfl) Tryz.underlying40 rfl op_sz
  exact ⟨_, _, rfl, hU.below L.K, fun k _ h => h, L.K⟩
set_option maxHeartbeats 2000000 in
theorem rmk_04ea (ha : a < 4294967296) (hM : Much a p M) (hL : Lists lo w h (gl [])) (hU : US w B m d ys) (hm : m = lv M + tv M + 1) (hk : s.kind = 1) (hit : s.item = 0) (hlf : s.leaf = (lf : Int)) (hlv : lf < lv M) (hw : s.word < 18446744073709551616) (hfu : s.full = true) (hcl : cl = lv M + lf / 64) (hb : b = lf % 64) (hat : s.at_ = 0) (hph : s.phase = 4) (hbit : (gt ys cl).testBit b = true) (hone : gt ys cl ≠ 18446744073709551615) :
    Calls Tryz.prog 43 #[.agg #[.int .u32 (a : Int), .int .i64 p, .slice A n c, .int .i64 (ns : Int), .int .i64 wo, .int .i64 qu, .int .i64 tr], .slice B m d, .agg (opv h s)] w (RetRM (ende (worded s (gt ys cl))) h m ys B w) := by
  have hm9 := hM.most
  have hl3 := lv_le hm9
  have ht3 := tv_le hm9
  have hm6 : m ≤ 65536 := by omega
  have hb2 : b < 64 := by omega
  have hcm : cl < m := by unfold tv tq at *; omega
  obtain ⟨z0, z1, z2, z3⟩ := gl_len hL
  have TT := fun w => Lib.hid (rtop_any M lf hM.most (by omega) w)
  rw [← hcl, ← hb] at TT
  obtain ⟨bb, oo, hBe, hbb, hcc⟩ := hU.get hcm
  subst hBe
  have TH := fun w => Lib.hid (rhas_any (gt ys cl) b (gt_lt hU.fit cl) hb2 w)
  rw [hbit] at TH
  clear hbit
  obtain ⟨x, hx⟩ : ∃ x, x = gt ys cl := ⟨_, rfl⟩
  rw [← hx] at hcc TH ⊢
  rw [← hx] at hone
  clear hx
  have f3 : ((x : Int) != 18446744073709551615) = true := by simp; omega
  clear hone
  have TG := fun w => Lib.hid (rgoes_end0 (w := w) (h := h) (a := a) (p := p) (sh := (ns : Int)) (wo := wo) (qu := qu) (tr := tr) (A := A) (n := n) (c := c) (s := worded s x) (by show s.kind ≠ 4; omega))
  have hcm2 : (cl : Int) < (m : Int) := by omega
  clear hcl hb hL z0 z1 z2 z3 hm9 hl3 ht3 hm ha
  rcases s with ⟨kind, addr, err, aad, used, phase, shard, sought, leaf, bit, word, full, at_, tries, item, stamp⟩
  rcases h with ⟨A0, n0, c0, A1, n1, c1, A2, n2, c2, A3, n3, c3⟩
  try dsimp only at *
  subst hk hit hlf hat hph hfu
  go_enter Tryz.func43, Tryz.ntmps43
  go_upto_region 1 with (fail)
  have L := Loc.start w
  replace L := (((L).alloc #[.int .u32 (a : Int), .int .i64 p, .slice A n c, .int .i64 (ns : Int), .int .i64 wo, .int .i64 qu, .int .i64 tr] 27).alloc (opv ⟨A0, n0, c0, A1, n1, c1, A2, n2, c2, A3, n3, c3⟩ ⟨1, addr, err, aad, used, 4, shard, sought, (lf : Int), bit, word, true, 0, tries, 0, stamp⟩) 40).alloc #[.int .i64 0, .int .u32 0, .slice none 0 0, .int .i64 0, .int .u32 0, .bool false, .slice none 0 0, .slice none 0 0, .int .i64 0, .int .i64 0, .int .i64 0, .int .i64 0, .int .i64 0, .int .u64 0, .bool false, .slice none 0 0, .int .i64 0, .int .i64 0, .int .i64 0, .int .i64 0] 40
  try simp only [World.size_alloc] at L
  replace L := L.is 0 (opv hd0 sc0) rfl
  try dsimp only [nput] at L
  generalize (((w).alloc (.cells #[.int .u32 (a : Int), .int .i64 p, .slice A n c, .int .i64 (ns : Int), .int .i64 wo, .int .i64 qu, .int .i64 tr] 27)).alloc (.cells (opv ⟨A0, n0, c0, A1, n1, c1, A2, n2, c2, A3, n3, c3⟩ ⟨1, addr, err, aad, used, 4, shard, sought, (lf : Int), bit, word, true, 0, tries, 0, stamp⟩) 40)).alloc (.cells #[.int .i64 0, .int .u32 0, .slice none 0 0, .int .i64 0, .int .u32 0, .bool false, .slice none 0 0, .slice none 0 0, .int .i64 0, .int .i64 0, .int .i64 0, .int .i64 0, .int .i64 0, .int .u64 0, .bool false, .slice none 0 0, .int .i64 0, .int .i64 0, .int .i64 0, .int .i64 0] 40) = w1 at L ⊢
  generalize w.heap.size + 1 + 1 = gR at L ⊢
  generalize w.heap.size + 1 = gO at L ⊢
  generalize w.heap.size = gH at L ⊢
  have H_0 := L.at_ 2 0 rfl (v := .int .u32 (a : Int)) rfl
  have H_1 := L.at_ 2 1 rfl (v := .int .i64 p) rfl
  have H_z := L.lt 2 rfl
  go_wp2_with fail
  refine (rmany_yes hM).mono ?_
  rintro e w2 ⟨rfl, K'⟩
  clear H_0 H_1 H_z
  replace L := L.over K'
  have O_11 := L.at_ 1 11 rfl (v := .int .i64 (lf : Int)) rfl
  have O_z := L.lt 1 rfl
  go_wp2_with fail
  refine ((TT _).out).mono ?_
  rintro e w' ⟨rfl, rfl⟩
  clear O_11 O_z
  have O_16 := L.at_ 1 16 rfl (v := .int .i64 0) rfl
  have O_8 := L.at_ 1 8 rfl (v := .int .i64 4) rfl
  have O_13 := L.at_ 1 13 rfl (v := .int .u64 ((word : Nat) : Int)) rfl
  have O_z := L.lt 1 rfl
  have O_f13 := L.fz 1 13 rfl
  have X := (L.K.cell (p := ⟨bb, oo + cl, none⟩) hbb).trans hcc
  go_upto_region 7 with fail
  clear O_16 O_8 O_13 O_z O_f13 X
  replace L := ((L.set 1 13 rfl (.int .u64 ((x : Nat) : Int))).is 1 (opv ⟨A0, n0, c0, A1, n1, c1, A2, n2, c2, A3, n3, c3⟩ ⟨1, addr, err, aad, used, 4, shard, sought, (lf : Int), bit, x, true, 0, tries, 0, stamp⟩) rfl)
  try dsimp only [nput] at L
  generalize (w2).setCell ⟨gO, 13, none⟩ (.int .u64 ((x : Nat) : Int)) = w3 at L ⊢
  replace L := L.drew
  refine wp_region_held_drew (S := fun w' => Loc w w' [(gR, 40, opv hd0 sc0), (gO, 40, opv ⟨A0, n0, c0, A1, n1, c1, A2, n2, c2, A3, n3, c3⟩ ⟨1, addr, err, aad, used, 4, shard, sought, (lf : Int), bit, x, true, 0, tries, 0, stamp⟩), (gH, 27, #[.int .u32 (a : Int), .int .i64 p, .slice A n c, .int .i64 (ns : Int), .int .i64 wo, .int .i64 qu, .int .i64 tr])] []) (by kernel_rfl) L (fun hHeld => ?_)
  generalize w3.drew = v4 at hHeld L ⊢
  refine wpAnyH_take (i := 0) (oi := ⟨some 40, _, _, _, _, _⟩) (v := .pointer (some ⟨gO, 13, none⟩)) rfl (by kernel_rfl) (by kernel_rfl) (by kernel_rfl) (fun _ _ _ h => h) (Or.inl ⟨by rfl, ?_⟩) hHeld ?_
  · (intro ww hS; go_simp; try with_reducible rfl; try omega)
  try simp only [Act.put, sA, sZ, sS]
  refine wpAnyH_take (i := 1) (oi := ⟨some 41, _, _, _, _, _⟩) (v := .int .u64 ((x : Nat) : Int)) rfl (by kernel_rfl) (by kernel_rfl) (by kernel_rfl) (fun _ _ _ h => h) (Or.inl ⟨by rfl, ?_⟩) hHeld ?_
  · intro ww hS
    try dsimp only at hS
    have O_13 := (hS).at_ 1 13 rfl (v := .int .u64 ((x : Nat) : Int)) rfl
    have O_z := (hS).lt 1 rfl
    go_simp
    try with_reducible rfl
    try omega
  try simp only [Act.put, sA, sZ, sS]
  refine wpAnyH_take (i := 2) (oi := ⟨some 42, _, _, _, _, _⟩) (v := .int .i64 (b : Int)) rfl (by kernel_rfl) (by kernel_rfl) (by kernel_rfl) (fun _ _ _ h => h) (Or.inl ⟨by rfl, ?_⟩) hHeld ?_
  · (intro ww hS; go_simp; try with_reducible rfl; try omega)
  try simp only [Act.put, sA, sZ, sS]
  refine wpAnyH_take (i := 4) (oi := ⟨some 44, _, _, _, _, _⟩) (v := .pointer (some ⟨gO, 14, none⟩)) rfl (by kernel_rfl) (by kernel_rfl) (by kernel_rfl) (fun _ _ _ h => h) (Or.inl ⟨by rfl, ?_⟩) hHeld ?_
  · (intro ww hS; go_simp; try with_reducible rfl; try omega)
  try simp only [Act.put, sA, sZ, sS]
  refine wpAnyH_take (i := 5) (oi := ⟨some 45, _, _, _, _, _⟩) (v := .bool true) rfl (by kernel_rfl) (by kernel_rfl) (by kernel_rfl) (fun _ _ _ h => h) (Or.inl ⟨by rfl, ?_⟩) hHeld ?_
  · intro ww hS
    try dsimp only at hS
    have O_14 := (hS).at_ 1 14 rfl (v := .bool true) rfl
    have O_z := (hS).lt 1 rfl
    go_simp
    try with_reducible rfl
    try omega
  try simp only [Act.put, sA, sZ, sS]
  refine wpAnyH_ready (rs := [3]) (by kernel_rfl) (by simp) ?_
  refine AllReadyH.cons (o := ⟨some 43, _, _, _, _, _⟩) rfl (fun K0 hK => ?_) AllReadyH.nil
  go_simp
  refine ((TH _).out).mono ?_
  rintro e w' ⟨rfl, rfl⟩
  refine hK.out _ _ L (fun hHeld' => ?_)
  clear hHeld hK K0
  have hHeld := hHeld'
  clear hHeld'
  try simp only [Act.put, sA, sZ, sS]
  refine wpAnyH_take (i := 6) (oi := ⟨some 46, _, _, _, _, _⟩) (v := .bool false) rfl (by kernel_rfl) (by kernel_rfl) (by kernel_rfl) (fun _ _ _ h => h) (Or.inl ⟨by rfl, ?_⟩) hHeld ?_
  · (intro ww hS; go_simp; try with_reducible rfl; try omega)
  try simp only [Act.put, sA, sZ, sS]
  refine wpAnyH_done (by kernel_rfl) ?_ _
  clear hHeld
  have O_16 := L.at_ 1 16 rfl (v := .int .i64 0) rfl
  have O_14 := L.at_ 1 14 rfl (v := .bool true) rfl
  have O_13 := L.at_ 1 13 rfl (v := .int .u64 ((x : Nat) : Int)) rfl
  have O_z := L.lt 1 rfl
  go_upto_region 17 with fail
  clear O_16 O_14 O_13 O_z
  go_wp2_with (first | (refine wpList_load_row rfl 27 (.tmp 3) rfl gH rfl _ _ (0, 0) _ (L.bk_ 2 rfl) Tryz.underlying27 rfl cf_sz ?_) | (refine wpList_load_row rfl 40 (.tmp 5) rfl gO rfl _ _ (0, 0) _ (L.bk_ 1 rfl) Tryz.underlying40 rfl op_sz ?_))
  refine ((TG _).out).mono ?_
  rintro e w5 ⟨rfl, K'⟩
  replace L := L.over K'
  go_wp2_with (refine wpList_store_row rfl 40 (.tmp 7) (.tmp 88) rfl gR _ rfl rfl _ _ (L.bk_ 0 rfl) op_sz rfl (opv_one _ _) ?_)
  replace L := (L.row 0 rfl (opv ⟨A0, n0, c0, A1, n1, c1, A2, n2, c2, A3, n3, c3⟩ (ende (worded ⟨1, addr, err, aad, used, 4, shard, sought, (lf : Int), bit, word, true, 0, tries, 0, stamp⟩ x))))
  try dsimp only [nput] at L
  generalize (w5).setRow gR (opv ⟨A0, n0, c0, A1, n1, c1, A2, n2, c2, A3, n3, c3⟩ (ende (worded ⟨1, addr, err, aad, used, 4, shard, sought, (lf : Int), bit, word, true, 0, tries, 0, stamp⟩ x))) = w6 at L ⊢
  refine bodyPost_ret (v := .tuple #[.slice (some ⟨bb, oo, none⟩) m d, .agg (opv ⟨A0, n0, c0, A1, n1, c1, A2, n2, c2, A3, n3, c3⟩ (ende (worded ⟨1, addr, err, aad, used, 4, shard, sought, (lf : Int), bit, word, true, 0, tries, 0, stamp⟩ x)))]) ?_ rfl ?_
  · exact results_tc (fn := Tryz.f43) Tryz.results43 _ _ gR _ _ (0, 0) _ rfl (L.bk_ 0 rfl) Tryz.underlying40 rfl op_sz
  exact ⟨_, _, rfl, hU.below L.K, fun k _ h => h, L.K⟩
set_option maxHeartbeats 2000000 in
theorem rmk_04eb (ha : a < 4294967296) (hM : Much a p M) (hL : Lists lo w h (gl [])) (hU : US w B m d ys) (hm : m = lv M + tv M + 1) (hk : s.kind = 1) (hit : s.item = 0) (hlf : s.leaf = (lf : Int)) (hlv : lf < lv M) (hw : s.word < 18446744073709551616) (hfu : s.full = true) (hcl : cl = lv M + lf / 64) (hb : b = lf % 64) (hat : s.at_ = 0) (hph : s.phase = 4) (hbit : (gt ys cl).testBit b = true) (hone : gt ys cl = 18446744073709551615) :
    Calls Tryz.prog 43 #[.agg #[.int .u32 (a : Int), .int .i64 p, .slice A n c, .int .i64 (ns : Int), .int .i64 wo, .int .i64 qu, .int .i64 tr], .slice B m d, .agg (opv h s)] w (RetRM (root_ (worded s (gt ys cl))) h m ys B w) := by
  have hm9 := hM.most
  have hl3 := lv_le hm9
  have ht3 := tv_le hm9
  have hm6 : m ≤ 65536 := by omega
  have hb2 : b < 64 := by omega
  have hcm : cl < m := by unfold tv tq at *; omega
  obtain ⟨z0, z1, z2, z3⟩ := gl_len hL
  have TT := fun w => Lib.hid (rtop_any M lf hM.most (by omega) w)
  rw [← hcl, ← hb] at TT
  obtain ⟨bb, oo, hBe, hbb, hcc⟩ := hU.get hcm
  subst hBe
  have TH := fun w => Lib.hid (rhas_any (gt ys cl) b (gt_lt hU.fit cl) hb2 w)
  rw [hbit] at TH
  clear hbit
  obtain ⟨x, hx⟩ : ∃ x, x = gt ys cl := ⟨_, rfl⟩
  rw [← hx] at hcc TH ⊢
  rw [← hx] at hone
  clear hx
  have f3 : ((x : Int) != 18446744073709551615) = false := by simp; omega
  clear hone
  have hcm2 : (cl : Int) < (m : Int) := by omega
  clear hcl hb hL z0 z1 z2 z3 hm9 hl3 ht3 hm ha
  rcases s with ⟨kind, addr, err, aad, used, phase, shard, sought, leaf, bit, word, full, at_, tries, item, stamp⟩
  rcases h with ⟨A0, n0, c0, A1, n1, c1, A2, n2, c2, A3, n3, c3⟩
  try dsimp only at *
  subst hk hit hlf hat hph hfu
  go_enter Tryz.func43, Tryz.ntmps43
  go_upto_region 1 with (fail)
  have L := Loc.start w
  replace L := (((L).alloc #[.int .u32 (a : Int), .int .i64 p, .slice A n c, .int .i64 (ns : Int), .int .i64 wo, .int .i64 qu, .int .i64 tr] 27).alloc (opv ⟨A0, n0, c0, A1, n1, c1, A2, n2, c2, A3, n3, c3⟩ ⟨1, addr, err, aad, used, 4, shard, sought, (lf : Int), bit, word, true, 0, tries, 0, stamp⟩) 40).alloc #[.int .i64 0, .int .u32 0, .slice none 0 0, .int .i64 0, .int .u32 0, .bool false, .slice none 0 0, .slice none 0 0, .int .i64 0, .int .i64 0, .int .i64 0, .int .i64 0, .int .i64 0, .int .u64 0, .bool false, .slice none 0 0, .int .i64 0, .int .i64 0, .int .i64 0, .int .i64 0] 40
  try simp only [World.size_alloc] at L
  replace L := L.is 0 (opv hd0 sc0) rfl
  try dsimp only [nput] at L
  generalize (((w).alloc (.cells #[.int .u32 (a : Int), .int .i64 p, .slice A n c, .int .i64 (ns : Int), .int .i64 wo, .int .i64 qu, .int .i64 tr] 27)).alloc (.cells (opv ⟨A0, n0, c0, A1, n1, c1, A2, n2, c2, A3, n3, c3⟩ ⟨1, addr, err, aad, used, 4, shard, sought, (lf : Int), bit, word, true, 0, tries, 0, stamp⟩) 40)).alloc (.cells #[.int .i64 0, .int .u32 0, .slice none 0 0, .int .i64 0, .int .u32 0, .bool false, .slice none 0 0, .slice none 0 0, .int .i64 0, .int .i64 0, .int .i64 0, .int .i64 0, .int .i64 0, .int .u64 0, .bool false, .slice none 0 0, .int .i64 0, .int .i64 0, .int .i64 0, .int .i64 0] 40) = w1 at L ⊢
  generalize w.heap.size + 1 + 1 = gR at L ⊢
  generalize w.heap.size + 1 = gO at L ⊢
  generalize w.heap.size = gH at L ⊢
  have H_0 := L.at_ 2 0 rfl (v := .int .u32 (a : Int)) rfl
  have H_1 := L.at_ 2 1 rfl (v := .int .i64 p) rfl
  have H_z := L.lt 2 rfl
  go_wp2_with fail
  refine (rmany_yes hM).mono ?_
  rintro e w2 ⟨rfl, K'⟩
  clear H_0 H_1 H_z
  replace L := L.over K'
  have O_11 := L.at_ 1 11 rfl (v := .int .i64 (lf : Int)) rfl
  have O_z := L.lt 1 rfl
  go_wp2_with fail
  refine ((TT _).out).mono ?_
  rintro e w' ⟨rfl, rfl⟩
  clear O_11 O_z
  have O_16 := L.at_ 1 16 rfl (v := .int .i64 0) rfl
  have O_8 := L.at_ 1 8 rfl (v := .int .i64 4) rfl
  have O_13 := L.at_ 1 13 rfl (v := .int .u64 ((word : Nat) : Int)) rfl
  have O_z := L.lt 1 rfl
  have O_f13 := L.fz 1 13 rfl
  have X := (L.K.cell (p := ⟨bb, oo + cl, none⟩) hbb).trans hcc
  go_upto_region 7 with fail
  clear O_16 O_8 O_13 O_z O_f13 X
  replace L := ((L.set 1 13 rfl (.int .u64 ((x : Nat) : Int))).is 1 (opv ⟨A0, n0, c0, A1, n1, c1, A2, n2, c2, A3, n3, c3⟩ ⟨1, addr, err, aad, used, 4, shard, sought, (lf : Int), bit, x, true, 0, tries, 0, stamp⟩) rfl)
  try dsimp only [nput] at L
  generalize (w2).setCell ⟨gO, 13, none⟩ (.int .u64 ((x : Nat) : Int)) = w3 at L ⊢
  replace L := L.drew
  refine wp_region_held_drew (S := fun w' => Loc w w' [(gR, 40, opv hd0 sc0), (gO, 40, opv ⟨A0, n0, c0, A1, n1, c1, A2, n2, c2, A3, n3, c3⟩ ⟨1, addr, err, aad, used, 4, shard, sought, (lf : Int), bit, x, true, 0, tries, 0, stamp⟩), (gH, 27, #[.int .u32 (a : Int), .int .i64 p, .slice A n c, .int .i64 (ns : Int), .int .i64 wo, .int .i64 qu, .int .i64 tr])] []) (by kernel_rfl) L (fun hHeld => ?_)
  generalize w3.drew = v4 at hHeld L ⊢
  refine wpAnyH_take (i := 0) (oi := ⟨some 40, _, _, _, _, _⟩) (v := .pointer (some ⟨gO, 13, none⟩)) rfl (by kernel_rfl) (by kernel_rfl) (by kernel_rfl) (fun _ _ _ h => h) (Or.inl ⟨by rfl, ?_⟩) hHeld ?_
  · (intro ww hS; go_simp; try with_reducible rfl; try omega)
  try simp only [Act.put, sA, sZ, sS]
  refine wpAnyH_take (i := 1) (oi := ⟨some 41, _, _, _, _, _⟩) (v := .int .u64 ((x : Nat) : Int)) rfl (by kernel_rfl) (by kernel_rfl) (by kernel_rfl) (fun _ _ _ h => h) (Or.inl ⟨by rfl, ?_⟩) hHeld ?_
  · intro ww hS
    try dsimp only at hS
    have O_13 := (hS).at_ 1 13 rfl (v := .int .u64 ((x : Nat) : Int)) rfl
    have O_z := (hS).lt 1 rfl
    go_simp
    try with_reducible rfl
    try omega
  try simp only [Act.put, sA, sZ, sS]
  refine wpAnyH_take (i := 2) (oi := ⟨some 42, _, _, _, _, _⟩) (v := .int .i64 (b : Int)) rfl (by kernel_rfl) (by kernel_rfl) (by kernel_rfl) (fun _ _ _ h => h) (Or.inl ⟨by rfl, ?_⟩) hHeld ?_
  · (intro ww hS; go_simp; try with_reducible rfl; try omega)
  try simp only [Act.put, sA, sZ, sS]
  refine wpAnyH_take (i := 4) (oi := ⟨some 44, _, _, _, _, _⟩) (v := .pointer (some ⟨gO, 14, none⟩)) rfl (by kernel_rfl) (by kernel_rfl) (by kernel_rfl) (fun _ _ _ h => h) (Or.inl ⟨by rfl, ?_⟩) hHeld ?_
  · (intro ww hS; go_simp; try with_reducible rfl; try omega)
  try simp only [Act.put, sA, sZ, sS]
  refine wpAnyH_take (i := 5) (oi := ⟨some 45, _, _, _, _, _⟩) (v := .bool true) rfl (by kernel_rfl) (by kernel_rfl) (by kernel_rfl) (fun _ _ _ h => h) (Or.inl ⟨by rfl, ?_⟩) hHeld ?_
  · intro ww hS
    try dsimp only at hS
    have O_14 := (hS).at_ 1 14 rfl (v := .bool true) rfl
    have O_z := (hS).lt 1 rfl
    go_simp
    try with_reducible rfl
    try omega
  try simp only [Act.put, sA, sZ, sS]
  refine wpAnyH_ready (rs := [3]) (by kernel_rfl) (by simp) ?_
  refine AllReadyH.cons (o := ⟨some 43, _, _, _, _, _⟩) rfl (fun K0 hK => ?_) AllReadyH.nil
  go_simp
  refine ((TH _).out).mono ?_
  rintro e w' ⟨rfl, rfl⟩
  refine hK.out _ _ L (fun hHeld' => ?_)
  clear hHeld hK K0
  have hHeld := hHeld'
  clear hHeld'
  try simp only [Act.put, sA, sZ, sS]
  refine wpAnyH_take (i := 6) (oi := ⟨some 46, _, _, _, _, _⟩) (v := .bool false) rfl (by kernel_rfl) (by kernel_rfl) (by kernel_rfl) (fun _ _ _ h => h) (Or.inl ⟨by rfl, ?_⟩) hHeld ?_
  · (intro ww hS; go_simp; try with_reducible rfl; try omega)
  try simp only [Act.put, sA, sZ, sS]
  refine wpAnyH_done (by kernel_rfl) ?_ _
  clear hHeld
  have O_16 := L.at_ 1 16 rfl (v := .int .i64 0) rfl
  have O_14 := L.at_ 1 14 rfl (v := .bool true) rfl
  have O_13 := L.at_ 1 13 rfl (v := .int .u64 ((x : Nat) : Int)) rfl
  have O_z := L.lt 1 rfl
  go_upto_region 18 with fail
  clear O_16 O_14 O_13 O_z
  have O_16 := L.at_ 1 16 rfl (v := .int .i64 0) rfl
  have O_z := L.lt 1 rfl
  have O_f16 := L.fz 1 16 rfl
  go_upto_region 19 with fail
  clear O_16 O_z O_f16
  replace L := ((L.set 1 16 rfl (.int .i64 1)).is 1 (opv ⟨A0, n0, c0, A1, n1, c1, A2, n2, c2, A3, n3, c3⟩ ⟨1, addr, err, aad, used, 4, shard, sought, (lf : Int), bit, x, true, 1, tries, 0, stamp⟩) rfl)
  try dsimp only [nput] at L
  generalize (v4).setCell ⟨gO, 16, none⟩ (.int .i64 1) = w5 at L ⊢
  have O_8 := L.at_ 1 8 rfl (v := .int .i64 4) rfl
  have O_z := L.lt 1 rfl
  have O_f8 := L.fz 1 8 rfl
  go_upto_region 20 with fail
  clear O_8 O_z O_f8
  replace L := ((L.set 1 8 rfl (.int .i64 4)).is 1 (opv ⟨A0, n0, c0, A1, n1, c1, A2, n2, c2, A3, n3, c3⟩ ⟨1, addr, err, aad, used, 4, shard, sought, (lf : Int), bit, x, true, 1, tries, 0, stamp⟩) rfl)
  try dsimp only [nput] at L
  generalize (w5).setCell ⟨gO, 8, none⟩ (.int .i64 4) = w6 at L ⊢
  replace L := L.drew
  refine wp_region_held_drew (S := fun w' => ∃ v_R : Array Value, v_R.size = 20 ∧ Loc w w' [(gR, 40, v_R), (gO, 40, opv ⟨A0, n0, c0, A1, n1, c1, A2, n2, c2, A3, n3, c3⟩ ⟨1, addr, err, aad, used, 4, shard, sought, (lf : Int), bit, x, true, 1, tries, 0, stamp⟩), (gH, 27, #[.int .u32 (a : Int), .int .i64 p, .slice A n c, .int .i64 (ns : Int), .int .i64 wo, .int .i64 qu, .int .i64 tr])] []) (by kernel_rfl) (⟨_, rfl, L⟩) (fun hHeld => ?_)
  generalize w6.drew = v7 at hHeld L ⊢
  refine wpAnyH_take (i := 0) (oi := ⟨some 91, _, _, _, _, _⟩) (v := .slice (some ⟨bb, oo, none⟩) m d) rfl (by kernel_rfl) (by kernel_rfl) (by kernel_rfl) (fun _ _ _ h => h) (Or.inl ⟨by rfl, ?_⟩) hHeld ?_
  · (intro ww hS; go_simp; try with_reducible rfl; try omega)
  try simp only [Act.put, sA, sZ, sS]
  refine wpAnyH_take (i := 1) (oi := ⟨some 92, _, _, _, _, _⟩) (v := .agg (opv ⟨A0, n0, c0, A1, n1, c1, A2, n2, c2, A3, n3, c3⟩ ⟨1, addr, err, aad, used, 4, shard, sought, (lf : Int), bit, x, true, 1, tries, 0, stamp⟩)) rfl (by kernel_rfl) (by kernel_rfl) (by kernel_rfl) (fun _ _ _ h => h) (yieldsIf_load_row (by rfl) 40 (.tmp 5) rfl gO rfl 40 _ (0, 0) _ (fun _ hS => ((hS.choose_spec.2).bk_ 1 rfl)) Tryz.underlying40 rfl op_sz) hHeld ?_
  try simp only [Act.put, sA, sZ, sS]
  refine wpAnyH_take (i := 2) (oi := ⟨some 6, _, _, _, _, _⟩) (v := .slice (some ⟨bb, oo, none⟩) m d) rfl (by kernel_rfl) (by kernel_rfl) (by kernel_rfl) (fun _ _ _ h => h) (Or.inl ⟨by rfl, ?_⟩) hHeld ?_
  · (intro ww hS; go_simp; try with_reducible rfl; try omega)
  try simp only [Act.put, sA, sZ, sS]
  refine wpAnyH_ready (rs := [3]) (by kernel_rfl) (by simp) ?_
  refine AllReadyH.cons (o := ⟨none, _, _, _, _, _⟩) rfl (fun K0 hK => ?_) AllReadyH.nil
  rw [if_pos (by rfl)]
  refine wp_store_row 40 (.tmp 7) (.tmp 92) rfl gR _ rfl rfl _ _ (L.bk_ 0 rfl) op_sz rfl (opv_one _ _) ?_
  replace L := L.row 0 rfl (opv ⟨A0, n0, c0, A1, n1, c1, A2, n2, c2, A3, n3, c3⟩ ⟨1, addr, err, aad, used, 4, shard, sought, (lf : Int), bit, x, true, 1, tries, 0, stamp⟩)
  try dsimp only [nput] at L
  refine hK.out _ _ ⟨_, rfl, L⟩ (fun hHeld' => ?_)
  clear hHeld hK K0
  have hHeld := hHeld'
  clear hHeld'
  generalize v7.setRow gR (opv ⟨A0, n0, c0, A1, n1, c1, A2, n2, c2, A3, n3, c3⟩ ⟨1, addr, err, aad, used, 4, shard, sought, (lf : Int), bit, x, true, 1, tries, 0, stamp⟩) = v8 at hHeld L ⊢
  try simp only [Act.put]
  refine wpAnyH_done (by kernel_rfl) ?_ _
  clear hHeld
  go_wp2
  refine bodyPost_ret (v := .tuple #[.slice (some ⟨bb, oo, none⟩) m d, .agg (opv ⟨A0, n0, c0, A1, n1, c1, A2, n2, c2, A3, n3, c3⟩ ⟨1, addr, err, aad, used, 4, shard, sought, (lf : Int), bit, x, true, 1, tries, 0, stamp⟩)]) ?_ rfl ?_
  · exact results_tc (fn := Tryz.f43) Tryz.results43 _ _ gR _ _ (0, 0) _ rfl (L.bk_ 0 rfl) Tryz.underlying40 rfl op_sz
  exact ⟨_, _, rfl, hU.below L.K, fun k _ h => h, L.K⟩
set_option maxHeartbeats 2000000 in
theorem rmk_05ya (ha : a < 4294967296) (hM : Much a p M) (hL : Lists lo w h (gl [])) (hU : US w B m d ys) (hm : m = lv M + tv M + 1) (hk : s.kind = 1) (hit : s.item = 0) (hlf : s.leaf = (lf : Int)) (hlv : lf < lv M) (hw : s.word < 18446744073709551616) (hfu : s.full = true) (hcl : cl = lv M + lf / 64) (hb : b = lf % 64) (hat : s.at_ = 0) (hph : s.phase = 5) (heq : gt ys cl = s.word) (hone : setb s.word b ≠ 18446744073709551615) :
    Calls Tryz.prog 43 #[.agg #[.int .u32 (a : Int), .int .i64 p, .slice A n c, .int .i64 (ns : Int), .int .i64 wo, .int .i64 qu, .int .i64 tr], .slice B m d, .agg (opv h s)] w (RetRM (ende (worded s (setb s.word b))) h m (ys.set cl (setb s.word b)) B w) := by
  have hm9 := hM.most
  have hl3 := lv_le hm9
  have ht3 := tv_le hm9
  have hm6 : m ≤ 65536 := by omega
  have hb2 : b < 64 := by omega
  have hcm : cl < m := by unfold tv tq at *; omega
  obtain ⟨z0, z1, z2, z3⟩ := gl_len hL
  have TT := fun w => Lib.hid (rtop_any M lf hM.most (by omega) w)
  rw [← hcl, ← hb] at TT
  obtain ⟨bb, oo, hBe, hbb, hcc⟩ := hU.get hcm
  subst hBe
  have TL := fun w => Lib.hid (rclear_any s.word b hw hb2 w)
  have TSt := fun w => Lib.hid (rset_any s.word b hw hb2 w)
  have hy := setb_lt hw hb2
  obtain ⟨y, hy1⟩ : ∃ y, y = setb s.word b := ⟨_, rfl⟩
  rw [← hy1] at hy ⊢
  rw [← hy1] at hone
  replace TSt := fun w => Lib.hid ((show setb s.word b = y from hy1.symm) ▸ (TSt w).out)
  generalize clrb s.word b = z at TL
  clear hy1
  rw [heq] at hcc
  have f1 : ((s.word : Int) == (s.word : Int)) = true := by simp
  have TSe : ∀ w, US w (some ⟨bb, oo, none⟩) m d ys → Hid (Calls Tryz.prog 35 #[.slice (some ⟨bb, oo, none⟩) m d, .int .i64 (cl : Nat), .int .u64 (y : Nat)] w (RetSM m (ys.set cl y) w)) := fun w U => by have := crset_new U (cl : Int) hm6 hy; rw [stI_nat] at this; exact this
  clear heq
  have f3 : ((y : Int) != 18446744073709551615) = true := by simp; omega
  clear hone
  have TG := fun w => Lib.hid (rgoes_end0 (w := w) (h := h) (a := a) (p := p) (sh := (ns : Int)) (wo := wo) (qu := qu) (tr := tr) (A := A) (n := n) (c := c) (s := worded s y) (by show s.kind ≠ 4; omega))
  have hcm2 : (cl : Int) < (m : Int) := by omega
  clear hcl hb hL z0 z1 z2 z3 hm9 hl3 ht3 hm ha
  rcases s with ⟨kind, addr, err, aad, used, phase, shard, sought, leaf, bit, word, full, at_, tries, item, stamp⟩
  rcases h with ⟨A0, n0, c0, A1, n1, c1, A2, n2, c2, A3, n3, c3⟩
  try dsimp only at *
  subst hk hit hlf hat hph hfu
  go_enter Tryz.func43, Tryz.ntmps43
  go_upto_region 1 with (fail)
  have L := Loc.start w
  replace L := (((L).alloc #[.int .u32 (a : Int), .int .i64 p, .slice A n c, .int .i64 (ns : Int), .int .i64 wo, .int .i64 qu, .int .i64 tr] 27).alloc (opv ⟨A0, n0, c0, A1, n1, c1, A2, n2, c2, A3, n3, c3⟩ ⟨1, addr, err, aad, used, 5, shard, sought, (lf : Int), bit, word, true, 0, tries, 0, stamp⟩) 40).alloc #[.int .i64 0, .int .u32 0, .slice none 0 0, .int .i64 0, .int .u32 0, .bool false, .slice none 0 0, .slice none 0 0, .int .i64 0, .int .i64 0, .int .i64 0, .int .i64 0, .int .i64 0, .int .u64 0, .bool false, .slice none 0 0, .int .i64 0, .int .i64 0, .int .i64 0, .int .i64 0] 40
  try simp only [World.size_alloc] at L
  replace L := L.is 0 (opv hd0 sc0) rfl
  try dsimp only [nput] at L
  generalize (((w).alloc (.cells #[.int .u32 (a : Int), .int .i64 p, .slice A n c, .int .i64 (ns : Int), .int .i64 wo, .int .i64 qu, .int .i64 tr] 27)).alloc (.cells (opv ⟨A0, n0, c0, A1, n1, c1, A2, n2, c2, A3, n3, c3⟩ ⟨1, addr, err, aad, used, 5, shard, sought, (lf : Int), bit, word, true, 0, tries, 0, stamp⟩) 40)).alloc (.cells #[.int .i64 0, .int .u32 0, .slice none 0 0, .int .i64 0, .int .u32 0, .bool false, .slice none 0 0, .slice none 0 0, .int .i64 0, .int .i64 0, .int .i64 0, .int .i64 0, .int .i64 0, .int .u64 0, .bool false, .slice none 0 0, .int .i64 0, .int .i64 0, .int .i64 0, .int .i64 0] 40) = w1 at L ⊢
  generalize w.heap.size + 1 + 1 = gR at L ⊢
  generalize w.heap.size + 1 = gO at L ⊢
  generalize w.heap.size = gH at L ⊢
  have H_0 := L.at_ 2 0 rfl (v := .int .u32 (a : Int)) rfl
  have H_1 := L.at_ 2 1 rfl (v := .int .i64 p) rfl
  have H_z := L.lt 2 rfl
  go_wp2_with fail
  refine (rmany_yes hM).mono ?_
  rintro e w2 ⟨rfl, K'⟩
  clear H_0 H_1 H_z
  replace L := L.over K'
  have O_11 := L.at_ 1 11 rfl (v := .int .i64 (lf : Int)) rfl
  have O_z := L.lt 1 rfl
  go_wp2_with fail
  refine ((TT _).out).mono ?_
  rintro e w' ⟨rfl, rfl⟩
  clear O_11 O_z
  have O_16 := L.at_ 1 16 rfl (v := .int .i64 0) rfl
  have O_8 := L.at_ 1 8 rfl (v := .int .i64 5) rfl
  have O_13 := L.at_ 1 13 rfl (v := .int .u64 ((word : Nat) : Int)) rfl
  have O_z := L.lt 1 rfl
  go_wp2_with fail
  refine ((TL _).out).mono ?_
  rintro e w' ⟨rfl, rfl⟩
  clear O_16 O_8 O_13 O_z
  have O_14 := L.at_ 1 14 rfl (v := .bool true) rfl
  have O_13 := L.at_ 1 13 rfl (v := .int .u64 ((word : Nat) : Int)) rfl
  have O_z := L.lt 1 rfl
  go_wp2_with fail
  refine ((TSt _).out).mono ?_
  rintro e w' ⟨rfl, rfl⟩
  clear O_14 O_13 O_z
  go_upto_region 13 with (fail)
  replace L := L.drew
  refine wp_region_held_drew (S := fun w' => Loc w w' [(gR, 40, opv hd0 sc0), (gO, 40, opv ⟨A0, n0, c0, A1, n1, c1, A2, n2, c2, A3, n3, c3⟩ ⟨1, addr, err, aad, used, 5, shard, sought, (lf : Int), bit, word, true, 0, tries, 0, stamp⟩), (gH, 27, #[.int .u32 (a : Int), .int .i64 p, .slice A n c, .int .i64 (ns : Int), .int .i64 wo, .int .i64 qu, .int .i64 tr])] []) (by kernel_rfl) L (fun hHeld => ?_)
  generalize w2.drew = v3 at hHeld L ⊢
  refine wpAnyH_take (i := 0) (oi := ⟨some 60, _, _, _, _, _⟩) (v := .slice (some ⟨bb, oo, none⟩) m d) rfl (by kernel_rfl) (by kernel_rfl) (by kernel_rfl) (fun _ _ _ h => h) (Or.inl ⟨by rfl, ?_⟩) hHeld ?_
  · (intro ww hS; go_simp; try with_reducible rfl; try omega)
  try simp only [Act.put, sA, sZ, sS]
  refine wpAnyH_take (i := 1) (oi := ⟨some 61, _, _, _, _, _⟩) (v := .int .i64 (cl : Int)) rfl (by kernel_rfl) (by kernel_rfl) (by kernel_rfl) (fun _ _ _ h => h) (Or.inl ⟨by rfl, ?_⟩) hHeld ?_
  · (intro ww hS; go_simp; try with_reducible rfl; try omega)
  try simp only [Act.put, sA, sZ, sS]
  refine wpAnyH_take (i := 2) (oi := ⟨some 62, _, _, _, _, _⟩) (v := .pointer (some ⟨bb, oo + cl, none⟩)) rfl (by kernel_rfl) (by kernel_rfl) (by kernel_rfl) (fun _ _ _ h => h) (Or.inl ⟨by rfl, ?_⟩) hHeld ?_
  · (intro ww hS; go_simp; try with_reducible rfl; try omega)
  try simp only [Act.put, sA, sZ, sS]
  refine wpAnyH_take (i := 3) (oi := ⟨some 63, _, _, _, _, _⟩) (v := .int .u64 ((word : Nat) : Int)) rfl (by kernel_rfl) (by kernel_rfl) (by kernel_rfl) (fun _ _ _ h => h) (Or.inl ⟨by rfl, ?_⟩) hHeld ?_
  · intro ww hS
    try dsimp only at hS
    have X := (((hS)).K.cell (p := ⟨bb, oo + cl, none⟩) hbb).trans hcc
    go_simp
    try with_reducible rfl
    try omega
  try simp only [Act.put, sA, sZ, sS]
  refine wpAnyH_take (i := 4) (oi := ⟨some 64, _, _, _, _, _⟩) (v := .pointer (some ⟨gO, 13, none⟩)) rfl (by kernel_rfl) (by kernel_rfl) (by kernel_rfl) (fun _ _ _ h => h) (Or.inl ⟨by rfl, ?_⟩) hHeld ?_
  · (intro ww hS; go_simp; try with_reducible rfl; try omega)
  try simp only [Act.put, sA, sZ, sS]
  refine wpAnyH_take (i := 5) (oi := ⟨some 65, _, _, _, _, _⟩) (v := .int .u64 ((word : Nat) : Int)) rfl (by kernel_rfl) (by kernel_rfl) (by kernel_rfl) (fun _ _ _ h => h) (Or.inl ⟨by rfl, ?_⟩) hHeld ?_
  · intro ww hS
    try dsimp only at hS
    have O_13 := (hS).at_ 1 13 rfl (v := .int .u64 ((word : Nat) : Int)) rfl
    have O_z := (hS).lt 1 rfl
    go_simp
    try with_reducible rfl
    try omega
  try simp only [Act.put, sA, sZ, sS]
  refine wpAnyH_take (i := 6) (oi := ⟨some 66, _, _, _, _, _⟩) (v := .bool true) rfl (by kernel_rfl) (by kernel_rfl) (by kernel_rfl) (fun _ _ _ h => h) (Or.inl ⟨by rfl, ?_⟩) hHeld ?_
  · (intro ww hS; go_simp; try with_reducible rfl; try omega)
  try simp only [Act.put, sA, sZ, sS]
  refine wpAnyH_done (by kernel_rfl) ?_ _
  clear hHeld
  go_wp2_with fail
  have KS := L.K.size
  refine ((TSe _ (hU.below L.K)).out).mono ?_
  rintro e w4 ⟨gS, dS, rfl, U, hgS, K'⟩
  have Lb := L.lts
  replace L := L.over K'
  replace L := L.us_av (fun i b e b' o e' => by injection e' with e'; injection e' with e1; have := Lb i b e; omega) U
  clear Lb
  try dsimp only [lF, List.cons_append, List.nil_append] at L
  clear U
  have O_13 := L.at_ 1 13 rfl (v := .int .u64 ((word : Nat) : Int)) rfl
  have O_z := L.lt 1 rfl
  have O_f13 := L.fz 1 13 rfl
  go_upto_region 16 with fail
  clear O_13 O_z O_f13
  replace L := ((L.set 1 13 rfl (.int .u64 ((y : Nat) : Int))).is 1 (opv ⟨A0, n0, c0, A1, n1, c1, A2, n2, c2, A3, n3, c3⟩ ⟨1, addr, err, aad, used, 5, shard, sought, (lf : Int), bit, y, true, 0, tries, 0, stamp⟩) rfl)
  try dsimp only [nput] at L
  generalize (w4).setCell ⟨gO, 13, none⟩ (.int .u64 ((y : Nat) : Int)) = w5 at L ⊢
  have O_16 := L.at_ 1 16 rfl (v := .int .i64 0) rfl
  have O_14 := L.at_ 1 14 rfl (v := .bool true) rfl
  have O_13 := L.at_ 1 13 rfl (v := .int .u64 ((y : Nat) : Int)) rfl
  have O_z := L.lt 1 rfl
  go_upto_region 17 with fail
  clear O_16 O_14 O_13 O_z
  go_wp2_with (first | (refine wpList_load_row rfl 27 (.tmp 3) rfl gH rfl _ _ (0, 0) _ (L.bk_ 2 rfl) Tryz.underlying27 rfl cf_sz ?_) | (refine wpList_load_row rfl 40 (.tmp 5) rfl gO rfl _ _ (0, 0) _ (L.bk_ 1 rfl) Tryz.underlying40 rfl op_sz ?_))
  refine ((TG _).out).mono ?_
  rintro e w6 ⟨rfl, K'⟩
  replace L := L.over K'
  go_wp2_with (refine wpList_store_row rfl 40 (.tmp 7) (.tmp 88) rfl gR _ rfl rfl _ _ (L.bk_ 0 rfl) op_sz rfl (opv_one _ _) ?_)
  replace L := (L.row 0 rfl (opv ⟨A0, n0, c0, A1, n1, c1, A2, n2, c2, A3, n3, c3⟩ (ende (worded ⟨1, addr, err, aad, used, 5, shard, sought, (lf : Int), bit, word, true, 0, tries, 0, stamp⟩ y))))
  try dsimp only [nput] at L
  generalize (w6).setRow gR (opv ⟨A0, n0, c0, A1, n1, c1, A2, n2, c2, A3, n3, c3⟩ (ende (worded ⟨1, addr, err, aad, used, 5, shard, sought, (lf : Int), bit, word, true, 0, tries, 0, stamp⟩ y))) = w7 at L ⊢
  refine bodyPost_ret (v := .tuple #[.slice (some ⟨gS, 0, none⟩) m dS, .agg (opv ⟨A0, n0, c0, A1, n1, c1, A2, n2, c2, A3, n3, c3⟩ (ende (worded ⟨1, addr, err, aad, used, 5, shard, sought, (lf : Int), bit, word, true, 0, tries, 0, stamp⟩ y)))]) ?_ rfl ?_
  · exact results_tc (fn := Tryz.f43) Tryz.results43 _ _ gR _ _ (0, 0) _ rfl (L.bk_ 0 rfl) Tryz.underlying40 rfl op_sz
  exact ⟨_, _, rfl, L.us_ 0 rfl, (fun i hi _ b o e => by injection e with e; injection e with e1; omega), L.K⟩
set_option maxHeartbeats 2000000 in
theorem rmk_05yb (ha : a < 4294967296) (hM : Much a p M) (hL : Lists lo w h (gl [])) (hU : US w B m d ys) (hm : m = lv M + tv M + 1) (hk : s.kind = 1) (hit : s.item = 0) (hlf : s.leaf = (lf : Int)) (hlv : lf < lv M) (hw : s.word < 18446744073709551616) (hfu : s.full = true) (hcl : cl = lv M + lf / 64) (hb : b = lf % 64) (hat : s.at_ = 0) (hph : s.phase = 5) (heq : gt ys cl = s.word) (hone : setb s.word b = 18446744073709551615) :
    Calls Tryz.prog 43 #[.agg #[.int .u32 (a : Int), .int .i64 p, .slice A n c, .int .i64 (ns : Int), .int .i64 wo, .int .i64 qu, .int .i64 tr], .slice B m d, .agg (opv h s)] w (RetRM (root_ (worded s (setb s.word b))) h m (ys.set cl (setb s.word b)) B w) := by
  have hm9 := hM.most
  have hl3 := lv_le hm9
  have ht3 := tv_le hm9
  have hm6 : m ≤ 65536 := by omega
  have hb2 : b < 64 := by omega
  have hcm : cl < m := by unfold tv tq at *; omega
  obtain ⟨z0, z1, z2, z3⟩ := gl_len hL
  have TT := fun w => Lib.hid (rtop_any M lf hM.most (by omega) w)
  rw [← hcl, ← hb] at TT
  obtain ⟨bb, oo, hBe, hbb, hcc⟩ := hU.get hcm
  subst hBe
  have TL := fun w => Lib.hid (rclear_any s.word b hw hb2 w)
  have TSt := fun w => Lib.hid (rset_any s.word b hw hb2 w)
  have hy := setb_lt hw hb2
  obtain ⟨y, hy1⟩ : ∃ y, y = setb s.word b := ⟨_, rfl⟩
  rw [← hy1] at hy ⊢
  rw [← hy1] at hone
  replace TSt := fun w => Lib.hid ((show setb s.word b = y from hy1.symm) ▸ (TSt w).out)
  generalize clrb s.word b = z at TL
  clear hy1
  rw [heq] at hcc
  have f1 : ((s.word : Int) == (s.word : Int)) = true := by simp
  have TSe : ∀ w, US w (some ⟨bb, oo, none⟩) m d ys → Hid (Calls Tryz.prog 35 #[.slice (some ⟨bb, oo, none⟩) m d, .int .i64 (cl : Nat), .int .u64 (y : Nat)] w (RetSM m (ys.set cl y) w)) := fun w U => by have := crset_new U (cl : Int) hm6 hy; rw [stI_nat] at this; exact this
  clear heq
  have f3 : ((y : Int) != 18446744073709551615) = false := by simp; omega
  clear hone
  have hcm2 : (cl : Int) < (m : Int) := by omega
  clear hcl hb hL z0 z1 z2 z3 hm9 hl3 ht3 hm ha
  rcases s with ⟨kind, addr, err, aad, used, phase, shard, sought, leaf, bit, word, full, at_, tries, item, stamp⟩
  rcases h with ⟨A0, n0, c0, A1, n1, c1, A2, n2, c2, A3, n3, c3⟩
  try dsimp only at *
  subst hk hit hlf hat hph hfu
  go_enter Tryz.func43, Tryz.ntmps43
  go_upto_region 1 with (fail)
  have L := Loc.start w
  replace L := (((L).alloc #[.int .u32 (a : Int), .int .i64 p, .slice A n c, .int .i64 (ns : Int), .int .i64 wo, .int .i64 qu, .int .i64 tr] 27).alloc (opv ⟨A0, n0, c0, A1, n1, c1, A2, n2, c2, A3, n3, c3⟩ ⟨1, addr, err, aad, used, 5, shard, sought, (lf : Int), bit, word, true, 0, tries, 0, stamp⟩) 40).alloc #[.int .i64 0, .int .u32 0, .slice none 0 0, .int .i64 0, .int .u32 0, .bool false, .slice none 0 0, .slice none 0 0, .int .i64 0, .int .i64 0, .int .i64 0, .int .i64 0, .int .i64 0, .int .u64 0, .bool false, .slice none 0 0, .int .i64 0, .int .i64 0, .int .i64 0, .int .i64 0] 40
  try simp only [World.size_alloc] at L
  replace L := L.is 0 (opv hd0 sc0) rfl
  try dsimp only [nput] at L
  generalize (((w).alloc (.cells #[.int .u32 (a : Int), .int .i64 p, .slice A n c, .int .i64 (ns : Int), .int .i64 wo, .int .i64 qu, .int .i64 tr] 27)).alloc (.cells (opv ⟨A0, n0, c0, A1, n1, c1, A2, n2, c2, A3, n3, c3⟩ ⟨1, addr, err, aad, used, 5, shard, sought, (lf : Int), bit, word, true, 0, tries, 0, stamp⟩) 40)).alloc (.cells #[.int .i64 0, .int .u32 0, .slice none 0 0, .int .i64 0, .int .u32 0, .bool false, .slice none 0 0, .slice none 0 0, .int .i64 0, .int .i64 0, .int .i64 0, .int .i64 0, .int .i64 0, .int .u64 0, .bool false, .slice none 0 0, .int .i64 0, .int .i64 0, .int .i64 0, .int .i64 0] 40) = w1 at L ⊢
  generalize w.heap.size + 1 + 1 = gR at L ⊢
  generalize w.heap.size + 1 = gO at L ⊢
  generalize w.heap.size = gH at L ⊢
  have H_0 := L.at_ 2 0 rfl (v := .int .u32 (a : Int)) rfl
  have H_1 := L.at_ 2 1 rfl (v := .int .i64 p) rfl
  have H_z := L.lt 2 rfl
  go_wp2_with fail
  refine (rmany_yes hM).mono ?_
  rintro e w2 ⟨rfl, K'⟩
  clear H_0 H_1 H_z
  replace L := L.over K'
  have O_11 := L.at_ 1 11 rfl (v := .int .i64 (lf : Int)) rfl
  have O_z := L.lt 1 rfl
  go_wp2_with fail
  refine ((TT _).out).mono ?_
  rintro e w' ⟨rfl, rfl⟩
  clear O_11 O_z
  have O_16 := L.at_ 1 16 rfl (v := .int .i64 0) rfl
  have O_8 := L.at_ 1 8 rfl (v := .int .i64 5) rfl
  have O_13 := L.at_ 1 13 rfl (v := .int .u64 ((word : Nat) : Int)) rfl
  have O_z := L.lt 1 rfl
  go_wp2_with fail
  refine ((TL _).out).mono ?_
  rintro e w' ⟨rfl, rfl⟩
  clear O_16 O_8 O_13 O_z
  have O_14 := L.at_ 1 14 rfl (v := .bool true) rfl
  have O_13 := L.at_ 1 13 rfl (v := .int .u64 ((word : Nat) : Int)) rfl
  have O_z := L.lt 1 rfl
  go_wp2_with fail
  refine ((TSt _).out).mono ?_
  rintro e w' ⟨rfl, rfl⟩
  clear O_14 O_13 O_z
  go_upto_region 13 with (fail)
  replace L := L.drew
  refine wp_region_held_drew (S := fun w' => Loc w w' [(gR, 40, opv hd0 sc0), (gO, 40, opv ⟨A0, n0, c0, A1, n1, c1, A2, n2, c2, A3, n3, c3⟩ ⟨1, addr, err, aad, used, 5, shard, sought, (lf : Int), bit, word, true, 0, tries, 0, stamp⟩), (gH, 27, #[.int .u32 (a : Int), .int .i64 p, .slice A n c, .int .i64 (ns : Int), .int .i64 wo, .int .i64 qu, .int .i64 tr])] []) (by kernel_rfl) L (fun hHeld => ?_)
  generalize w2.drew = v3 at hHeld L ⊢
  refine wpAnyH_take (i := 0) (oi := ⟨some 60, _, _, _, _, _⟩) (v := .slice (some ⟨bb, oo, none⟩) m d) rfl (by kernel_rfl) (by kernel_rfl) (by kernel_rfl) (fun _ _ _ h => h) (Or.inl ⟨by rfl, ?_⟩) hHeld ?_
  · (intro ww hS; go_simp; try with_reducible rfl; try omega)
  try simp only [Act.put, sA, sZ, sS]
  refine wpAnyH_take (i := 1) (oi := ⟨some 61, _, _, _, _, _⟩) (v := .int .i64 (cl : Int)) rfl (by kernel_rfl) (by kernel_rfl) (by kernel_rfl) (fun _ _ _ h => h) (Or.inl ⟨by rfl, ?_⟩) hHeld ?_
  · (intro ww hS; go_simp; try with_reducible rfl; try omega)
  try simp only [Act.put, sA, sZ, sS]
  refine wpAnyH_take (i := 2) (oi := ⟨some 62, _, _, _, _, _⟩) (v := .pointer (some ⟨bb, oo + cl, none⟩)) rfl (by kernel_rfl) (by kernel_rfl) (by kernel_rfl) (fun _ _ _ h => h) (Or.inl ⟨by rfl, ?_⟩) hHeld ?_
  · (intro ww hS; go_simp; try with_reducible rfl; try omega)
  try simp only [Act.put, sA, sZ, sS]
  refine wpAnyH_take (i := 3) (oi := ⟨some 63, _, _, _, _, _⟩) (v := .int .u64 ((word : Nat) : Int)) rfl (by kernel_rfl) (by kernel_rfl) (by kernel_rfl) (fun _ _ _ h => h) (Or.inl ⟨by rfl, ?_⟩) hHeld ?_
  · intro ww hS
    try dsimp only at hS
    have X := (((hS)).K.cell (p := ⟨bb, oo + cl, none⟩) hbb).trans hcc
    go_simp
    try with_reducible rfl
    try omega
  try simp only [Act.put, sA, sZ, sS]
  refine wpAnyH_take (i := 4) (oi := ⟨some 64, _, _, _, _, _⟩) (v := .pointer (some ⟨gO, 13, none⟩)) rfl (by kernel_rfl) (by kernel_rfl) (by kernel_rfl) (fun _ _ _ h => h) (Or.inl ⟨by rfl, ?_⟩) hHeld ?_
  · (intro ww hS; go_simp; try with_reducible rfl; try omega)
  try simp only [Act.put, sA, sZ, sS]
  refine wpAnyH_take (i := 5) (oi := ⟨some 65, _, _, _, _, _⟩) (v := .int .u64 ((word : Nat) : Int)) rfl (by kernel_rfl) (by kernel_rfl) (by kernel_rfl) (fun _ _ _ h => h) (Or.inl ⟨by rfl, ?_⟩) hHeld ?_
  · intro ww hS
    try dsimp only at hS
    have O_13 := (hS).at_ 1 13 rfl (v := .int .u64 ((word : Nat) : Int)) rfl
    have O_z := (hS).lt 1 rfl
    go_simp
    try with_reducible rfl
    try omega
  try simp only [Act.put, sA, sZ, sS]
  refine wpAnyH_take (i := 6) (oi := ⟨some 66, _, _, _, _, _⟩) (v := .bool true) rfl (by kernel_rfl) (by kernel_rfl) (by kernel_rfl) (fun _ _ _ h => h) (Or.inl ⟨by rfl, ?_⟩) hHeld ?_
  · (intro ww hS; go_simp; try with_reducible rfl; try omega)
  try simp only [Act.put, sA, sZ, sS]
  refine wpAnyH_done (by kernel_rfl) ?_ _
  clear hHeld
  go_wp2_with fail
  have KS := L.K.size
  refine ((TSe _ (hU.below L.K)).out).mono ?_
  rintro e w4 ⟨gS, dS, rfl, U, hgS, K'⟩
  have Lb := L.lts
  replace L := L.over K'
  replace L := L.us_av (fun i b e b' o e' => by injection e' with e'; injection e' with e1; have := Lb i b e; omega) U
  clear Lb
  try dsimp only [lF, List.cons_append, List.nil_append] at L
  clear U
  have O_13 := L.at_ 1 13 rfl (v := .int .u64 ((word : Nat) : Int)) rfl
  have O_z := L.lt 1 rfl
  have O_f13 := L.fz 1 13 rfl
  go_upto_region 16 with fail
  clear O_13 O_z O_f13
  replace L := ((L.set 1 13 rfl (.int .u64 ((y : Nat) : Int))).is 1 (opv ⟨A0, n0, c0, A1, n1, c1, A2, n2, c2, A3, n3, c3⟩ ⟨1, addr, err, aad, used, 5, shard, sought, (lf : Int), bit, y, true, 0, tries, 0, stamp⟩) rfl)
  try dsimp only [nput] at L
  generalize (w4).setCell ⟨gO, 13, none⟩ (.int .u64 ((y : Nat) : Int)) = w5 at L ⊢
  have O_16 := L.at_ 1 16 rfl (v := .int .i64 0) rfl
  have O_14 := L.at_ 1 14 rfl (v := .bool true) rfl
  have O_13 := L.at_ 1 13 rfl (v := .int .u64 ((y : Nat) : Int)) rfl
  have O_z := L.lt 1 rfl
  go_upto_region 18 with fail
  clear O_16 O_14 O_13 O_z
  have O_16 := L.at_ 1 16 rfl (v := .int .i64 0) rfl
  have O_z := L.lt 1 rfl
  have O_f16 := L.fz 1 16 rfl
  go_upto_region 19 with fail
  clear O_16 O_z O_f16
  replace L := ((L.set 1 16 rfl (.int .i64 1)).is 1 (opv ⟨A0, n0, c0, A1, n1, c1, A2, n2, c2, A3, n3, c3⟩ ⟨1, addr, err, aad, used, 5, shard, sought, (lf : Int), bit, y, true, 1, tries, 0, stamp⟩) rfl)
  try dsimp only [nput] at L
  generalize (w5).setCell ⟨gO, 16, none⟩ (.int .i64 1) = w6 at L ⊢
  have O_8 := L.at_ 1 8 rfl (v := .int .i64 5) rfl
  have O_z := L.lt 1 rfl
  have O_f8 := L.fz 1 8 rfl
  go_upto_region 20 with fail
  clear O_8 O_z O_f8
  replace L := ((L.set 1 8 rfl (.int .i64 4)).is 1 (opv ⟨A0, n0, c0, A1, n1, c1, A2, n2, c2, A3, n3, c3⟩ ⟨1, addr, err, aad, used, 4, shard, sought, (lf : Int), bit, y, true, 1, tries, 0, stamp⟩) rfl)
  try dsimp only [nput] at L
  generalize (w6).setCell ⟨gO, 8, none⟩ (.int .i64 4) = w7 at L ⊢
  replace L := L.drew
  refine wp_region_held_drew (S := fun w' => ∃ v_R : Array Value, v_R.size = 20 ∧ Loc w w' [(gR, 40, v_R), (gO, 40, opv ⟨A0, n0, c0, A1, n1, c1, A2, n2, c2, A3, n3, c3⟩ ⟨1, addr, err, aad, used, 4, shard, sought, (lf : Int), bit, y, true, 1, tries, 0, stamp⟩), (gH, 27, #[.int .u32 (a : Int), .int .i64 p, .slice A n c, .int .i64 (ns : Int), .int .i64 wo, .int .i64 qu, .int .i64 tr])] [uF (some ⟨gS, 0, none⟩) m dS (ys.set cl y)]) (by kernel_rfl) (⟨_, rfl, L⟩) (fun hHeld => ?_)
  generalize w7.drew = v8 at hHeld L ⊢
  refine wpAnyH_take (i := 0) (oi := ⟨some 91, _, _, _, _, _⟩) (v := .slice (some ⟨gS, 0, none⟩) m dS) rfl (by kernel_rfl) (by kernel_rfl) (by kernel_rfl) (fun _ _ _ h => h) (Or.inl ⟨by rfl, ?_⟩) hHeld ?_
  · (intro ww hS; go_simp; try with_reducible rfl; try omega)
  try simp only [Act.put, sA, sZ, sS]
  refine wpAnyH_take (i := 1) (oi := ⟨some 92, _, _, _, _, _⟩) (v := .agg (opv ⟨A0, n0, c0, A1, n1, c1, A2, n2, c2, A3, n3, c3⟩ ⟨1, addr, err, aad, used, 4, shard, sought, (lf : Int), bit, y, true, 1, tries, 0, stamp⟩)) rfl (by kernel_rfl) (by kernel_rfl) (by kernel_rfl) (fun _ _ _ h => h) (yieldsIf_load_row (by rfl) 40 (.tmp 5) rfl gO rfl 40 _ (0, 0) _ (fun _ hS => ((hS.choose_spec.2).bk_ 1 rfl)) Tryz.underlying40 rfl op_sz) hHeld ?_
  try simp only [Act.put, sA, sZ, sS]
  refine wpAnyH_take (i := 2) (oi := ⟨some 6, _, _, _, _, _⟩) (v := .slice (some ⟨gS, 0, none⟩) m dS) rfl (by kernel_rfl) (by kernel_rfl) (by kernel_rfl) (fun _ _ _ h => h) (Or.inl ⟨by rfl, ?_⟩) hHeld ?_
  · (intro ww hS; go_simp; try with_reducible rfl; try omega)
  try simp only [Act.put, sA, sZ, sS]
  refine wpAnyH_ready (rs := [3]) (by kernel_rfl) (by simp) ?_
  refine AllReadyH.cons (o := ⟨none, _, _, _, _, _⟩) rfl (fun K0 hK => ?_) AllReadyH.nil
  rw [if_pos (by rfl)]
  refine wp_store_row 40 (.tmp 7) (.tmp 92) rfl gR _ rfl rfl _ _ (L.bk_ 0 rfl) op_sz rfl (opv_one _ _) ?_
  replace L := L.row 0 rfl (opv ⟨A0, n0, c0, A1, n1, c1, A2, n2, c2, A3, n3, c3⟩ ⟨1, addr, err, aad, used, 4, shard, sought, (lf : Int), bit, y, true, 1, tries, 0, stamp⟩)
  try dsimp only [nput] at L
  refine hK.out _ _ ⟨_, rfl, L⟩ (fun hHeld' => ?_)
  clear hHeld hK K0
  have hHeld := hHeld'
  clear hHeld'
  generalize v8.setRow gR (opv ⟨A0, n0, c0, A1, n1, c1, A2, n2, c2, A3, n3, c3⟩ ⟨1, addr, err, aad, used, 4, shard, sought, (lf : Int), bit, y, true, 1, tries, 0, stamp⟩) = v9 at hHeld L ⊢
  try simp only [Act.put]
  refine wpAnyH_done (by kernel_rfl) ?_ _
  clear hHeld
  go_wp2
  refine bodyPost_ret (v := .tuple #[.slice (some ⟨gS, 0, none⟩) m dS, .agg (opv ⟨A0, n0, c0, A1, n1, c1, A2, n2, c2, A3, n3, c3⟩ ⟨1, addr, err, aad, used, 4, shard, sought, (lf : Int), bit, y, true, 1, tries, 0, stamp⟩)]) ?_ rfl ?_
  · exact results_tc (fn := Tryz.f43) Tryz.results43 _ _ gR _ _ (0, 0) _ rfl (L.bk_ 0 rfl) Tryz.underlying40 rfl op_sz
  exact ⟨_, _, rfl, L.us_ 0 rfl, (fun i hi _ b o e => by injection e with e; injection e with e1; omega), L.K⟩
set_option maxHeartbeats 2000000 in
theorem rmk_05na (ha : a < 4294967296) (hM : Much a p M) (hL : Lists lo w h (gl [])) (hU : US w B m d ys) (hm : m = lv M + tv M + 1) (hk : s.kind = 1) (hit : s.item = 0) (hlf : s.leaf = (lf : Int)) (hlv : lf < lv M) (hw : s.word < 18446744073709551616) (hfu : s.full = true) (hcl : cl = lv M + lf / 64) (hb : b = lf % 64) (hat : s.at_ = 0) (hph : s.phase = 5) (heq : gt ys cl ≠ s.word) (hone : setb s.word b ≠ 18446744073709551615) :
    Calls Tryz.prog 43 #[.agg #[.int .u32 (a : Int), .int .i64 p, .slice A n c, .int .i64 (ns : Int), .int .i64 wo, .int .i64 qu, .int .i64 tr], .slice B m d, .agg (opv h s)] w (RetRM (ende (worded s (setb s.word b))) h m ys B w) := by
  have hm9 := hM.most
  have hl3 := lv_le hm9
  have ht3 := tv_le hm9
  have hm6 : m ≤ 65536 := by omega
  have hb2 : b < 64 := by omega
  have hcm : cl < m := by unfold tv tq at *; omega
  obtain ⟨z0, z1, z2, z3⟩ := gl_len hL
  have TT := fun w => Lib.hid (rtop_any M lf hM.most (by omega) w)
  rw [← hcl, ← hb] at TT
  obtain ⟨bb, oo, hBe, hbb, hcc⟩ := hU.get hcm
  subst hBe
  have TL := fun w => Lib.hid (rclear_any s.word b hw hb2 w)
  have TSt := fun w => Lib.hid (rset_any s.word b hw hb2 w)
  have hy := setb_lt hw hb2
  obtain ⟨y, hy1⟩ : ∃ y, y = setb s.word b := ⟨_, rfl⟩
  rw [← hy1] at hy ⊢
  rw [← hy1] at hone
  replace TSt := fun w => Lib.hid ((show setb s.word b = y from hy1.symm) ▸ (TSt w).out)
  generalize clrb s.word b = z at TL
  clear hy1
  obtain ⟨x, hx⟩ : ∃ x, x = gt ys cl := ⟨_, rfl⟩
  rw [← hx] at hcc heq
  have f1 : ((x : Int) == (s.word : Int)) = false := by simp; omega
  clear hx
  clear heq
  have f3 : ((y : Int) != 18446744073709551615) = true := by simp; omega
  clear hone
  have TG := fun w => Lib.hid (rgoes_end0 (w := w) (h := h) (a := a) (p := p) (sh := (ns : Int)) (wo := wo) (qu := qu) (tr := tr) (A := A) (n := n) (c := c) (s := worded s y) (by show s.kind ≠ 4; omega))
  have hcm2 : (cl : Int) < (m : Int) := by omega
  clear hcl hb hL z0 z1 z2 z3 hm9 hl3 ht3 hm ha
  rcases s with ⟨kind, addr, err, aad, used, phase, shard, sought, leaf, bit, word, full, at_, tries, item, stamp⟩
  rcases h with ⟨A0, n0, c0, A1, n1, c1, A2, n2, c2, A3, n3, c3⟩
  try dsimp only at *
  subst hk hit hlf hat hph hfu
  go_enter Tryz.func43, Tryz.ntmps43
  go_upto_region 1 with (fail)
  have L := Loc.start w
  replace L := (((L).alloc #[.int .u32 (a : Int), .int .i64 p, .slice A n c, .int .i64 (ns : Int), .int .i64 wo, .int .i64 qu, .int .i64 tr] 27).alloc (opv ⟨A0, n0, c0, A1, n1, c1, A2, n2, c2, A3, n3, c3⟩ ⟨1, addr, err, aad, used, 5, shard, sought, (lf : Int), bit, word, true, 0, tries, 0, stamp⟩) 40).alloc #[.int .i64 0, .int .u32 0, .slice none 0 0, .int .i64 0, .int .u32 0, .bool false, .slice none 0 0, .slice none 0 0, .int .i64 0, .int .i64 0, .int .i64 0, .int .i64 0, .int .i64 0, .int .u64 0, .bool false, .slice none 0 0, .int .i64 0, .int .i64 0, .int .i64 0, .int .i64 0] 40
  try simp only [World.size_alloc] at L
  replace L := L.is 0 (opv hd0 sc0) rfl
  try dsimp only [nput] at L
  generalize (((w).alloc (.cells #[.int .u32 (a : Int), .int .i64 p, .slice A n c, .int .i64 (ns : Int), .int .i64 wo, .int .i64 qu, .int .i64 tr] 27)).alloc (.cells (opv ⟨A0, n0, c0, A1, n1, c1, A2, n2, c2, A3, n3, c3⟩ ⟨1, addr, err, aad, used, 5, shard, sought, (lf : Int), bit, word, true, 0, tries, 0, stamp⟩) 40)).alloc (.cells #[.int .i64 0, .int .u32 0, .slice none 0 0, .int .i64 0, .int .u32 0, .bool false, .slice none 0 0, .slice none 0 0, .int .i64 0, .int .i64 0, .int .i64 0, .int .i64 0, .int .i64 0, .int .u64 0, .bool false, .slice none 0 0, .int .i64 0, .int .i64 0, .int .i64 0, .int .i64 0] 40) = w1 at L ⊢
  generalize w.heap.size + 1 + 1 = gR at L ⊢
  generalize w.heap.size + 1 = gO at L ⊢
  generalize w.heap.size = gH at L ⊢
  have H_0 := L.at_ 2 0 rfl (v := .int .u32 (a : Int)) rfl
  have H_1 := L.at_ 2 1 rfl (v := .int .i64 p) rfl
  have H_z := L.lt 2 rfl
  go_wp2_with fail
  refine (rmany_yes hM).mono ?_
  rintro e w2 ⟨rfl, K'⟩
  clear H_0 H_1 H_z
  replace L := L.over K'
  have O_11 := L.at_ 1 11 rfl (v := .int .i64 (lf : Int)) rfl
  have O_z := L.lt 1 rfl
  go_wp2_with fail
  refine ((TT _).out).mono ?_
  rintro e w' ⟨rfl, rfl⟩
  clear O_11 O_z
  have O_16 := L.at_ 1 16 rfl (v := .int .i64 0) rfl
  have O_8 := L.at_ 1 8 rfl (v := .int .i64 5) rfl
  have O_13 := L.at_ 1 13 rfl (v := .int .u64 ((word : Nat) : Int)) rfl
  have O_z := L.lt 1 rfl
  go_wp2_with fail
  refine ((TL _).out).mono ?_
  rintro e w' ⟨rfl, rfl⟩
  clear O_16 O_8 O_13 O_z
  have O_14 := L.at_ 1 14 rfl (v := .bool true) rfl
  have O_13 := L.at_ 1 13 rfl (v := .int .u64 ((word : Nat) : Int)) rfl
  have O_z := L.lt 1 rfl
  go_wp2_with fail
  refine ((TSt _).out).mono ?_
  rintro e w' ⟨rfl, rfl⟩
  clear O_14 O_13 O_z
  go_upto_region 13 with (fail)
  replace L := L.drew
  refine wp_region_held_drew (S := fun w' => Loc w w' [(gR, 40, opv hd0 sc0), (gO, 40, opv ⟨A0, n0, c0, A1, n1, c1, A2, n2, c2, A3, n3, c3⟩ ⟨1, addr, err, aad, used, 5, shard, sought, (lf : Int), bit, word, true, 0, tries, 0, stamp⟩), (gH, 27, #[.int .u32 (a : Int), .int .i64 p, .slice A n c, .int .i64 (ns : Int), .int .i64 wo, .int .i64 qu, .int .i64 tr])] []) (by kernel_rfl) L (fun hHeld => ?_)
  generalize w2.drew = v3 at hHeld L ⊢
  refine wpAnyH_take (i := 0) (oi := ⟨some 60, _, _, _, _, _⟩) (v := .slice (some ⟨bb, oo, none⟩) m d) rfl (by kernel_rfl) (by kernel_rfl) (by kernel_rfl) (fun _ _ _ h => h) (Or.inl ⟨by rfl, ?_⟩) hHeld ?_
  · (intro ww hS; go_simp; try with_reducible rfl; try omega)
  try simp only [Act.put, sA, sZ, sS]
  refine wpAnyH_take (i := 1) (oi := ⟨some 61, _, _, _, _, _⟩) (v := .int .i64 (cl : Int)) rfl (by kernel_rfl) (by kernel_rfl) (by kernel_rfl) (fun _ _ _ h => h) (Or.inl ⟨by rfl, ?_⟩) hHeld ?_
  · (intro ww hS; go_simp; try with_reducible rfl; try omega)
  try simp only [Act.put, sA, sZ, sS]
  refine wpAnyH_take (i := 2) (oi := ⟨some 62, _, _, _, _, _⟩) (v := .pointer (some ⟨bb, oo + cl, none⟩)) rfl (by kernel_rfl) (by kernel_rfl) (by kernel_rfl) (fun _ _ _ h => h) (Or.inl ⟨by rfl, ?_⟩) hHeld ?_
  · (intro ww hS; go_simp; try with_reducible rfl; try omega)
  try simp only [Act.put, sA, sZ, sS]
  refine wpAnyH_take (i := 3) (oi := ⟨some 63, _, _, _, _, _⟩) (v := .int .u64 ((x : Nat) : Int)) rfl (by kernel_rfl) (by kernel_rfl) (by kernel_rfl) (fun _ _ _ h => h) (Or.inl ⟨by rfl, ?_⟩) hHeld ?_
  · intro ww hS
    try dsimp only at hS
    have X := (((hS)).K.cell (p := ⟨bb, oo + cl, none⟩) hbb).trans hcc
    go_simp
    try with_reducible rfl
    try omega
  try simp only [Act.put, sA, sZ, sS]
  refine wpAnyH_take (i := 4) (oi := ⟨some 64, _, _, _, _, _⟩) (v := .pointer (some ⟨gO, 13, none⟩)) rfl (by kernel_rfl) (by kernel_rfl) (by kernel_rfl) (fun _ _ _ h => h) (Or.inl ⟨by rfl, ?_⟩) hHeld ?_
  · (intro ww hS; go_simp; try with_reducible rfl; try omega)
  try simp only [Act.put, sA, sZ, sS]
  refine wpAnyH_take (i := 5) (oi := ⟨some 65, _, _, _, _, _⟩) (v := .int .u64 ((word : Nat) : Int)) rfl (by kernel_rfl) (by kernel_rfl) (by kernel_rfl) (fun _ _ _ h => h) (Or.inl ⟨by rfl, ?_⟩) hHeld ?_
  · intro ww hS
    try dsimp only at hS
    have O_13 := (hS).at_ 1 13 rfl (v := .int .u64 ((word : Nat) : Int)) rfl
    have O_z := (hS).lt 1 rfl
    go_simp
    try with_reducible rfl
    try omega
  try simp only [Act.put, sA, sZ, sS]
  refine wpAnyH_take (i := 6) (oi := ⟨some 66, _, _, _, _, _⟩) (v := .bool false) rfl (by kernel_rfl) (by kernel_rfl) (by kernel_rfl) (fun _ _ _ h => h) (Or.inl ⟨by rfl, ?_⟩) hHeld ?_
  · (intro ww hS; go_simp; try with_reducible rfl; try omega)
  try simp only [Act.put, sA, sZ, sS]
  refine wpAnyH_done (by kernel_rfl) ?_ _
  clear hHeld
  have O_13 := L.at_ 1 13 rfl (v := .int .u64 ((word : Nat) : Int)) rfl
  have O_z := L.lt 1 rfl
  have O_f13 := L.fz 1 13 rfl
  go_upto_region 16 with fail
  clear O_13 O_z O_f13
  replace L := ((L.set 1 13 rfl (.int .u64 ((y : Nat) : Int))).is 1 (opv ⟨A0, n0, c0, A1, n1, c1, A2, n2, c2, A3, n3, c3⟩ ⟨1, addr, err, aad, used, 5, shard, sought, (lf : Int), bit, y, true, 0, tries, 0, stamp⟩) rfl)
  try dsimp only [nput] at L
  generalize (v3).setCell ⟨gO, 13, none⟩ (.int .u64 ((y : Nat) : Int)) = w4 at L ⊢
  have O_16 := L.at_ 1 16 rfl (v := .int .i64 0) rfl
  have O_14 := L.at_ 1 14 rfl (v := .bool true) rfl
  have O_13 := L.at_ 1 13 rfl (v := .int .u64 ((y : Nat) : Int)) rfl
  have O_z := L.lt 1 rfl
  go_upto_region 17 with fail
  clear O_16 O_14 O_13 O_z
  go_wp2_with (first | (refine wpList_load_row rfl 27 (.tmp 3) rfl gH rfl _ _ (0, 0) _ (L.bk_ 2 rfl) Tryz.underlying27 rfl cf_sz ?_) | (refine wpList_load_row rfl 40 (.tmp 5) rfl gO rfl _ _ (0, 0) _ (L.bk_ 1 rfl) Tryz.underlying40 rfl op_sz ?_))
  refine ((TG _).out).mono ?_
  rintro e w5 ⟨rfl, K'⟩
  replace L := L.over K'
  go_wp2_with (refine wpList_store_row rfl 40 (.tmp 7) (.tmp 88) rfl gR _ rfl rfl _ _ (L.bk_ 0 rfl) op_sz rfl (opv_one _ _) ?_)
  replace L := (L.row 0 rfl (opv ⟨A0, n0, c0, A1, n1, c1, A2, n2, c2, A3, n3, c3⟩ (ende (worded ⟨1, addr, err, aad, used, 5, shard, sought, (lf : Int), bit, word, true, 0, tries, 0, stamp⟩ y))))
  try dsimp only [nput] at L
  generalize (w5).setRow gR (opv ⟨A0, n0, c0, A1, n1, c1, A2, n2, c2, A3, n3, c3⟩ (ende (worded ⟨1, addr, err, aad, used, 5, shard, sought, (lf : Int), bit, word, true, 0, tries, 0, stamp⟩ y))) = w6 at L ⊢
  refine bodyPost_ret (v := .tuple #[.slice (some ⟨bb, oo, none⟩) m d, .agg (opv ⟨A0, n0, c0, A1, n1, c1, A2, n2, c2, A3, n3, c3⟩ (ende (worded ⟨1, addr, err, aad, used, 5, shard, sought, (lf : Int), bit, word, true, 0, tries, 0, stamp⟩ y)))]) ?_ rfl ?_
  · exact results_tc (fn := Tryz.f43) Tryz.results43 _ _ gR _ _ (0, 0) _ rfl (L.bk_ 0 rfl) Tryz.underlying40 rfl op_sz
  exact ⟨_, _, rfl, hU.below L.K, fun k _ h => h, L.K⟩
set_option maxHeartbeats 2000000 in
theorem rmk_05nb (ha : a < 4294967296) (hM : Much a p M) (hL : Lists lo w h (gl [])) (hU : US w B m d ys) (hm : m = lv M + tv M + 1) (hk : s.kind = 1) (hit : s.item = 0) (hlf : s.leaf = (lf : Int)) (hlv : lf < lv M) (hw : s.word < 18446744073709551616) (hfu : s.full = true) (hcl : cl = lv M + lf / 64) (hb : b = lf % 64) (hat : s.at_ = 0) (hph : s.phase = 5) (heq : gt ys cl ≠ s.word) (hone : setb s.word b = 18446744073709551615) :
    Calls Tryz.prog 43 #[.agg #[.int .u32 (a : Int), .int .i64 p, .slice A n c, .int .i64 (ns : Int), .int .i64 wo, .int .i64 qu, .int .i64 tr], .slice B m d, .agg (opv h s)] w (RetRM (root_ (worded s (setb s.word b))) h m ys B w) := by
  have hm9 := hM.most
  have hl3 := lv_le hm9
  have ht3 := tv_le hm9
  have hm6 : m ≤ 65536 := by omega
  have hb2 : b < 64 := by omega
  have hcm : cl < m := by unfold tv tq at *; omega
  obtain ⟨z0, z1, z2, z3⟩ := gl_len hL
  have TT := fun w => Lib.hid (rtop_any M lf hM.most (by omega) w)
  rw [← hcl, ← hb] at TT
  obtain ⟨bb, oo, hBe, hbb, hcc⟩ := hU.get hcm
  subst hBe
  have TL := fun w => Lib.hid (rclear_any s.word b hw hb2 w)
  have TSt := fun w => Lib.hid (rset_any s.word b hw hb2 w)
  have hy := setb_lt hw hb2
  obtain ⟨y, hy1⟩ : ∃ y, y = setb s.word b := ⟨_, rfl⟩
  rw [← hy1] at hy ⊢
  rw [← hy1] at hone
  replace TSt := fun w => Lib.hid ((show setb s.word b = y from hy1.symm) ▸ (TSt w).out)
  generalize clrb s.word b = z at TL
  clear hy1
  obtain ⟨x, hx⟩ : ∃ x, x = gt ys cl := ⟨_, rfl⟩
  rw [← hx] at hcc heq
  have f1 : ((x : Int) == (s.word : Int)) = false := by simp; omega
  clear hx
  clear heq
  have f3 : ((y : Int) != 18446744073709551615) = false := by simp; omega
  clear hone
  have hcm2 : (cl : Int) < (m : Int) := by omega
  clear hcl hb hL z0 z1 z2 z3 hm9 hl3 ht3 hm ha
  rcases s with ⟨kind, addr, err, aad, used, phase, shard, sought, leaf, bit, word, full, at_, tries, item, stamp⟩
  rcases h with ⟨A0, n0, c0, A1, n1, c1, A2, n2, c2, A3, n3, c3⟩
  try dsimp only at *
  subst hk hit hlf hat hph hfu
  go_enter Tryz.func43, Tryz.ntmps43
  go_upto_region 1 with (fail)
  have L := Loc.start w
  replace L := (((L).alloc #[.int .u32 (a : Int), .int .i64 p, .slice A n c, .int .i64 (ns : Int), .int .i64 wo, .int .i64 qu, .int .i64 tr] 27).alloc (opv ⟨A0, n0, c0, A1, n1, c1, A2, n2, c2, A3, n3, c3⟩ ⟨1, addr, err, aad, used, 5, shard, sought, (lf : Int), bit, word, true, 0, tries, 0, stamp⟩) 40).alloc #[.int .i64 0, .int .u32 0, .slice none 0 0, .int .i64 0, .int .u32 0, .bool false, .slice none 0 0, .slice none 0 0, .int .i64 0, .int .i64 0, .int .i64 0, .int .i64 0, .int .i64 0, .int .u64 0, .bool false, .slice none 0 0, .int .i64 0, .int .i64 0, .int .i64 0, .int .i64 0] 40
  try simp only [World.size_alloc] at L
  replace L := L.is 0 (opv hd0 sc0) rfl
  try dsimp only [nput] at L
  generalize (((w).alloc (.cells #[.int .u32 (a : Int), .int .i64 p, .slice A n c, .int .i64 (ns : Int), .int .i64 wo, .int .i64 qu, .int .i64 tr] 27)).alloc (.cells (opv ⟨A0, n0, c0, A1, n1, c1, A2, n2, c2, A3, n3, c3⟩ ⟨1, addr, err, aad, used, 5, shard, sought, (lf : Int), bit, word, true, 0, tries, 0, stamp⟩) 40)).alloc (.cells #[.int .i64 0, .int .u32 0, .slice none 0 0, .int .i64 0, .int .u32 0, .bool false, .slice none 0 0, .slice none 0 0, .int .i64 0, .int .i64 0, .int .i64 0, .int .i64 0, .int .i64 0, .int .u64 0, .bool false, .slice none 0 0, .int .i64 0, .int .i64 0, .int .i64 0, .int .i64 0] 40) = w1 at L ⊢
  generalize w.heap.size + 1 + 1 = gR at L ⊢
  generalize w.heap.size + 1 = gO at L ⊢
  generalize w.heap.size = gH at L ⊢
  have H_0 := L.at_ 2 0 rfl (v := .int .u32 (a : Int)) rfl
  have H_1 := L.at_ 2 1 rfl (v := .int .i64 p) rfl
  have H_z := L.lt 2 rfl
  go_wp2_with fail
  refine (rmany_yes hM).mono ?_
  rintro e w2 ⟨rfl, K'⟩
  clear H_0 H_1 H_z
  replace L := L.over K'
  have O_11 := L.at_ 1 11 rfl (v := .int .i64 (lf : Int)) rfl
  have O_z := L.lt 1 rfl
  go_wp2_with fail
  refine ((TT _).out).mono ?_
  rintro e w' ⟨rfl, rfl⟩
  clear O_11 O_z
  have O_16 := L.at_ 1 16 rfl (v := .int .i64 0) rfl
  have O_8 := L.at_ 1 8 rfl (v := .int .i64 5) rfl
  have O_13 := L.at_ 1 13 rfl (v := .int .u64 ((word : Nat) : Int)) rfl
  have O_z := L.lt 1 rfl
  go_wp2_with fail
  refine ((TL _).out).mono ?_
  rintro e w' ⟨rfl, rfl⟩
  clear O_16 O_8 O_13 O_z
  have O_14 := L.at_ 1 14 rfl (v := .bool true) rfl
  have O_13 := L.at_ 1 13 rfl (v := .int .u64 ((word : Nat) : Int)) rfl
  have O_z := L.lt 1 rfl
  go_wp2_with fail
  refine ((TSt _).out).mono ?_
  rintro e w' ⟨rfl, rfl⟩
  clear O_14 O_13 O_z
  go_upto_region 13 with (fail)
  replace L := L.drew
  refine wp_region_held_drew (S := fun w' => Loc w w' [(gR, 40, opv hd0 sc0), (gO, 40, opv ⟨A0, n0, c0, A1, n1, c1, A2, n2, c2, A3, n3, c3⟩ ⟨1, addr, err, aad, used, 5, shard, sought, (lf : Int), bit, word, true, 0, tries, 0, stamp⟩), (gH, 27, #[.int .u32 (a : Int), .int .i64 p, .slice A n c, .int .i64 (ns : Int), .int .i64 wo, .int .i64 qu, .int .i64 tr])] []) (by kernel_rfl) L (fun hHeld => ?_)
  generalize w2.drew = v3 at hHeld L ⊢
  refine wpAnyH_take (i := 0) (oi := ⟨some 60, _, _, _, _, _⟩) (v := .slice (some ⟨bb, oo, none⟩) m d) rfl (by kernel_rfl) (by kernel_rfl) (by kernel_rfl) (fun _ _ _ h => h) (Or.inl ⟨by rfl, ?_⟩) hHeld ?_
  · (intro ww hS; go_simp; try with_reducible rfl; try omega)
  try simp only [Act.put, sA, sZ, sS]
  refine wpAnyH_take (i := 1) (oi := ⟨some 61, _, _, _, _, _⟩) (v := .int .i64 (cl : Int)) rfl (by kernel_rfl) (by kernel_rfl) (by kernel_rfl) (fun _ _ _ h => h) (Or.inl ⟨by rfl, ?_⟩) hHeld ?_
  · (intro ww hS; go_simp; try with_reducible rfl; try omega)
  try simp only [Act.put, sA, sZ, sS]
  refine wpAnyH_take (i := 2) (oi := ⟨some 62, _, _, _, _, _⟩) (v := .pointer (some ⟨bb, oo + cl, none⟩)) rfl (by kernel_rfl) (by kernel_rfl) (by kernel_rfl) (fun _ _ _ h => h) (Or.inl ⟨by rfl, ?_⟩) hHeld ?_
  · (intro ww hS; go_simp; try with_reducible rfl; try omega)
  try simp only [Act.put, sA, sZ, sS]
  refine wpAnyH_take (i := 3) (oi := ⟨some 63, _, _, _, _, _⟩) (v := .int .u64 ((x : Nat) : Int)) rfl (by kernel_rfl) (by kernel_rfl) (by kernel_rfl) (fun _ _ _ h => h) (Or.inl ⟨by rfl, ?_⟩) hHeld ?_
  · intro ww hS
    try dsimp only at hS
    have X := (((hS)).K.cell (p := ⟨bb, oo + cl, none⟩) hbb).trans hcc
    go_simp
    try with_reducible rfl
    try omega
  try simp only [Act.put, sA, sZ, sS]
  refine wpAnyH_take (i := 4) (oi := ⟨some 64, _, _, _, _, _⟩) (v := .pointer (some ⟨gO, 13, none⟩)) rfl (by kernel_rfl) (by kernel_rfl) (by kernel_rfl) (fun _ _ _ h => h) (Or.inl ⟨by rfl, ?_⟩) hHeld ?_
  · (intro ww hS; go_simp; try with_reducible rfl; try omega)
  try simp only [Act.put, sA, sZ, sS]
  refine wpAnyH_take (i := 5) (oi := ⟨some 65, _, _, _, _, _⟩) (v := .int .u64 ((word : Nat) : Int)) rfl (by kernel_rfl) (by kernel_rfl) (by kernel_rfl) (fun _ _ _ h => h) (Or.inl ⟨by rfl, ?_⟩) hHeld ?_
  · intro ww hS
    try dsimp only at hS
    have O_13 := (hS).at_ 1 13 rfl (v := .int .u64 ((word : Nat) : Int)) rfl
    have O_z := (hS).lt 1 rfl
    go_simp
    try with_reducible rfl
    try omega
  try simp only [Act.put, sA, sZ, sS]
  refine wpAnyH_take (i := 6) (oi := ⟨some 66, _, _, _, _, _⟩) (v := .bool false) rfl (by kernel_rfl) (by kernel_rfl) (by kernel_rfl) (fun _ _ _ h => h) (Or.inl ⟨by rfl, ?_⟩) hHeld ?_
  · (intro ww hS; go_simp; try with_reducible rfl; try omega)
  try simp only [Act.put, sA, sZ, sS]
  refine wpAnyH_done (by kernel_rfl) ?_ _
  clear hHeld
  have O_13 := L.at_ 1 13 rfl (v := .int .u64 ((word : Nat) : Int)) rfl
  have O_z := L.lt 1 rfl
  have O_f13 := L.fz 1 13 rfl
  go_upto_region 16 with fail
  clear O_13 O_z O_f13
  replace L := ((L.set 1 13 rfl (.int .u64 ((y : Nat) : Int))).is 1 (opv ⟨A0, n0, c0, A1, n1, c1, A2, n2, c2, A3, n3, c3⟩ ⟨1, addr, err, aad, used, 5, shard, sought, (lf : Int), bit, y, true, 0, tries, 0, stamp⟩) rfl)
  try dsimp only [nput] at L
  generalize (v3).setCell ⟨gO, 13, none⟩ (.int .u64 ((y : Nat) : Int)) = w4 at L ⊢
  have O_16 := L.at_ 1 16 rfl (v := .int .i64 0) rfl
  have O_14 := L.at_ 1 14 rfl (v := .bool true) rfl
  have O_13 := L.at_ 1 13 rfl (v := .int .u64 ((y : Nat) : Int)) rfl
  have O_z := L.lt 1 rfl
  go_upto_region 18 with fail
  clear O_16 O_14 O_13 O_z
  have O_16 := L.at_ 1 16 rfl (v := .int .i64 0) rfl
  have O_z := L.lt 1 rfl
  have O_f16 := L.fz 1 16 rfl
  go_upto_region 19 with fail
  clear O_16 O_z O_f16
  replace L := ((L.set 1 16 rfl (.int .i64 1)).is 1 (opv ⟨A0, n0, c0, A1, n1, c1, A2, n2, c2, A3, n3, c3⟩ ⟨1, addr, err, aad, used, 5, shard, sought, (lf : Int), bit, y, true, 1, tries, 0, stamp⟩) rfl)
  try dsimp only [nput] at L
  generalize (w4).setCell ⟨gO, 16, none⟩ (.int .i64 1) = w5 at L ⊢
  have O_8 := L.at_ 1 8 rfl (v := .int .i64 5) rfl
  have O_z := L.lt 1 rfl
  have O_f8 := L.fz 1 8 rfl
  go_upto_region 20 with fail
  clear O_8 O_z O_f8
  replace L := ((L.set 1 8 rfl (.int .i64 4)).is 1 (opv ⟨A0, n0, c0, A1, n1, c1, A2, n2, c2, A3, n3, c3⟩ ⟨1, addr, err, aad, used, 4, shard, sought, (lf : Int), bit, y, true, 1, tries, 0, stamp⟩) rfl)
  try dsimp only [nput] at L
  generalize (w5).setCell ⟨gO, 8, none⟩ (.int .i64 4) = w6 at L ⊢
  replace L := L.drew
  refine wp_region_held_drew (S := fun w' => ∃ v_R : Array Value, v_R.size = 20 ∧ Loc w w' [(gR, 40, v_R), (gO, 40, opv ⟨A0, n0, c0, A1, n1, c1, A2, n2, c2, A3, n3, c3⟩ ⟨1, addr, err, aad, used, 4, shard, sought, (lf : Int), bit, y, true, 1, tries, 0, stamp⟩), (gH, 27, #[.int .u32 (a : Int), .int .i64 p, .slice A n c, .int .i64 (ns : Int), .int .i64 wo, .int .i64 qu, .int .i64 tr])] []) (by kernel_rfl) (⟨_, rfl, L⟩) (fun hHeld => ?_)
  generalize w6.drew = v7 at hHeld L ⊢
  refine wpAnyH_take (i := 0) (oi := ⟨some 91, _, _, _, _, _⟩) (v := .slice (some ⟨bb, oo, none⟩) m d) rfl (by kernel_rfl) (by kernel_rfl) (by kernel_rfl) (fun _ _ _ h => h) (Or.inl ⟨by rfl, ?_⟩) hHeld ?_
  · (intro ww hS; go_simp; try with_reducible rfl; try omega)
  try simp only [Act.put, sA, sZ, sS]
  refine wpAnyH_take (i := 1) (oi := ⟨some 92, _, _, _, _, _⟩) (v := .agg (opv ⟨A0, n0, c0, A1, n1, c1, A2, n2, c2, A3, n3, c3⟩ ⟨1, addr, err, aad, used, 4, shard, sought, (lf : Int), bit, y, true, 1, tries, 0, stamp⟩)) rfl (by kernel_rfl) (by kernel_rfl) (by kernel_rfl) (fun _ _ _ h => h) (yieldsIf_load_row (by rfl) 40 (.tmp 5) rfl gO rfl 40 _ (0, 0) _ (fun _ hS => ((hS.choose_spec.2).bk_ 1 rfl)) Tryz.underlying40 rfl op_sz) hHeld ?_
  try simp only [Act.put, sA, sZ, sS]
  refine wpAnyH_take (i := 2) (oi := ⟨some 6, _, _, _, _, _⟩) (v := .slice (some ⟨bb, oo, none⟩) m d) rfl (by kernel_rfl) (by kernel_rfl) (by kernel_rfl) (fun _ _ _ h => h) (Or.inl ⟨by rfl, ?_⟩) hHeld ?_
  · (intro ww hS; go_simp; try with_reducible rfl; try omega)
  try simp only [Act.put, sA, sZ, sS]
  refine wpAnyH_ready (rs := [3]) (by kernel_rfl) (by simp) ?_
  refine AllReadyH.cons (o := ⟨none, _, _, _, _, _⟩) rfl (fun K0 hK => ?_) AllReadyH.nil
  rw [if_pos (by rfl)]
  refine wp_store_row 40 (.tmp 7) (.tmp 92) rfl gR _ rfl rfl _ _ (L.bk_ 0 rfl) op_sz rfl (opv_one _ _) ?_
  replace L := L.row 0 rfl (opv ⟨A0, n0, c0, A1, n1, c1, A2, n2, c2, A3, n3, c3⟩ ⟨1, addr, err, aad, used, 4, shard, sought, (lf : Int), bit, y, true, 1, tries, 0, stamp⟩)
  try dsimp only [nput] at L
  refine hK.out _ _ ⟨_, rfl, L⟩ (fun hHeld' => ?_)
  clear hHeld hK K0
  have hHeld := hHeld'
  clear hHeld'
  generalize v7.setRow gR (opv ⟨A0, n0, c0, A1, n1, c1, A2, n2, c2, A3, n3, c3⟩ ⟨1, addr, err, aad, used, 4, shard, sought, (lf : Int), bit, y, true, 1, tries, 0, stamp⟩) = v8 at hHeld L ⊢
  try simp only [Act.put]
  refine wpAnyH_done (by kernel_rfl) ?_ _
  clear hHeld
  go_wp2
  refine bodyPost_ret (v := .tuple #[.slice (some ⟨bb, oo, none⟩) m d, .agg (opv ⟨A0, n0, c0, A1, n1, c1, A2, n2, c2, A3, n3, c3⟩ ⟨1, addr, err, aad, used, 4, shard, sought, (lf : Int), bit, y, true, 1, tries, 0, stamp⟩)]) ?_ rfl ?_
  · exact results_tc (fn := Tryz.f43) Tryz.results43 _ _ gR _ _ (0, 0) _ rfl (L.bk_ 0 rfl) Tryz.underlying40 rfl op_sz
  exact ⟨_, _, rfl, hU.below L.K, fun k _ h => h, L.K⟩
set_option maxHeartbeats 2000000 in
theorem rmk_14n (ha : a < 4294967296) (hM : Much a p M) (hL : Lists lo w h (gl [])) (hU : US w B m d ys) (hm : m = lv M + tv M + 1) (hk : s.kind = 1) (hit : s.item = 0) (hlf : s.leaf = (lf : Int)) (hlv : lf < lv M) (hw : s.word < 18446744073709551616) (hfu : s.full = true) (hcl : cl = lv M + tv M) (hb : b = lf / 64) (hat : s.at_ = 1) (hph : s.phase = 4) (hbit : (gt ys cl).testBit b = false) :
    Calls Tryz.prog 43 #[.agg #[.int .u32 (a : Int), .int .i64 p, .slice A n c, .int .i64 (ns : Int), .int .i64 wo, .int .i64 qu, .int .i64 tr], .slice B m d, .agg (opv h s)] w (RetRM (setp (worded s (gt ys cl))) h m ys B w) := by
  have hm9 := hM.most
  have hl3 := lv_le hm9
  have ht3 := tv_le hm9
  have hm6 : m ≤ 65536 := by omega
  have hb2 : b < 64 := by omega
  have hcm : cl < m := by omega
  obtain ⟨z0, z1, z2, z3⟩ := gl_len hL
  have TT := fun w => Lib.hid (rtop_any M lf hM.most (by omega) w)
  have TR := fun w => Lib.hid (rroot_any M lf hM.most (by omega) w)
  rw [← hcl, ← hb] at TR
  generalize (lv M + lf / 64) = q1 at TT
  generalize lf % 64 = q2 at TT
  obtain ⟨bb, oo, hBe, hbb, hcc⟩ := hU.get hcm
  subst hBe
  have TH := fun w => Lib.hid (rhas_any (gt ys cl) b (gt_lt hU.fit cl) hb2 w)
  rw [hbit] at TH
  clear hbit
  obtain ⟨x, hx⟩ : ∃ x, x = gt ys cl := ⟨_, rfl⟩
  rw [← hx] at hcc TH ⊢
  clear hx
  have hcm2 : (cl : Int) < (m : Int) := by omega
  clear hcl hb hL z0 z1 z2 z3 hm9 hl3 ht3 hm ha
  rcases s with ⟨kind, addr, err, aad, used, phase, shard, sought, leaf, bit, word, full, at_, tries, item, stamp⟩
  rcases h with ⟨A0, n0, c0, A1, n1, c1, A2, n2, c2, A3, n3, c3⟩
  try dsimp only at *
  subst hk hit hlf hat hph hfu
  go_enter Tryz.func43, Tryz.ntmps43
  go_upto_region 1 with (fail)
  have L := Loc.start w
  replace L := (((L).alloc #[.int .u32 (a : Int), .int .i64 p, .slice A n c, .int .i64 (ns : Int), .int .i64 wo, .int .i64 qu, .int .i64 tr] 27).alloc (opv ⟨A0, n0, c0, A1, n1, c1, A2, n2, c2, A3, n3, c3⟩ ⟨1, addr, err, aad, used, 4, shard, sought, (lf : Int), bit, word, true, 1, tries, 0, stamp⟩) 40).alloc #[.int .i64 0, .int .u32 0, .slice none 0 0, .int .i64 0, .int .u32 0, .bool false, .slice none 0 0, .slice none 0 0, .int .i64 0, .int .i64 0, .int .i64 0, .int .i64 0, .int .i64 0, .int .u64 0, .bool false, .slice none 0 0, .int .i64 0, .int .i64 0, .int .i64 0, .int .i64 0] 40
  try simp only [World.size_alloc] at L
  replace L := L.is 0 (opv hd0 sc0) rfl
  try dsimp only [nput] at L
  generalize (((w).alloc (.cells #[.int .u32 (a : Int), .int .i64 p, .slice A n c, .int .i64 (ns : Int), .int .i64 wo, .int .i64 qu, .int .i64 tr] 27)).alloc (.cells (opv ⟨A0, n0, c0, A1, n1, c1, A2, n2, c2, A3, n3, c3⟩ ⟨1, addr, err, aad, used, 4, shard, sought, (lf : Int), bit, word, true, 1, tries, 0, stamp⟩) 40)).alloc (.cells #[.int .i64 0, .int .u32 0, .slice none 0 0, .int .i64 0, .int .u32 0, .bool false, .slice none 0 0, .slice none 0 0, .int .i64 0, .int .i64 0, .int .i64 0, .int .i64 0, .int .i64 0, .int .u64 0, .bool false, .slice none 0 0, .int .i64 0, .int .i64 0, .int .i64 0, .int .i64 0] 40) = w1 at L ⊢
  generalize w.heap.size + 1 + 1 = gR at L ⊢
  generalize w.heap.size + 1 = gO at L ⊢
  generalize w.heap.size = gH at L ⊢
  have H_0 := L.at_ 2 0 rfl (v := .int .u32 (a : Int)) rfl
  have H_1 := L.at_ 2 1 rfl (v := .int .i64 p) rfl
  have H_z := L.lt 2 rfl
  go_wp2_with fail
  refine (rmany_yes hM).mono ?_
  rintro e w2 ⟨rfl, K'⟩
  clear H_0 H_1 H_z
  replace L := L.over K'
  have O_11 := L.at_ 1 11 rfl (v := .int .i64 (lf : Int)) rfl
  have O_z := L.lt 1 rfl
  go_wp2_with fail
  refine ((TT _).out).mono ?_
  rintro e w' ⟨rfl, rfl⟩
  clear O_11 O_z
  have O_16 := L.at_ 1 16 rfl (v := .int .i64 1) rfl
  have O_11 := L.at_ 1 11 rfl (v := .int .i64 (lf : Int)) rfl
  have O_z := L.lt 1 rfl
  go_wp2_with fail
  refine ((TR _).out).mono ?_
  rintro e w' ⟨rfl, rfl⟩
  clear O_16 O_11 O_z
  have O_8 := L.at_ 1 8 rfl (v := .int .i64 4) rfl
  have O_13 := L.at_ 1 13 rfl (v := .int .u64 ((word : Nat) : Int)) rfl
  have O_z := L.lt 1 rfl
  have O_f13 := L.fz 1 13 rfl
  have X := (L.K.cell (p := ⟨bb, oo + cl, none⟩) hbb).trans hcc
  go_upto_region 7 with fail
  clear O_8 O_13 O_z O_f13 X
  replace L := ((L.set 1 13 rfl (.int .u64 ((x : Nat) : Int))).is 1 (opv ⟨A0, n0, c0, A1, n1, c1, A2, n2, c2, A3, n3, c3⟩ ⟨1, addr, err, aad, used, 4, shard, sought, (lf : Int), bit, x, true, 1, tries, 0, stamp⟩) rfl)
  try dsimp only [nput] at L
  generalize (w2).setCell ⟨gO, 13, none⟩ (.int .u64 ((x : Nat) : Int)) = w3 at L ⊢
  replace L := L.drew
  refine wp_region_held_drew (S := fun w' => Loc w w' [(gR, 40, opv hd0 sc0), (gO, 40, opv ⟨A0, n0, c0, A1, n1, c1, A2, n2, c2, A3, n3, c3⟩ ⟨1, addr, err, aad, used, 4, shard, sought, (lf : Int), bit, x, true, 1, tries, 0, stamp⟩), (gH, 27, #[.int .u32 (a : Int), .int .i64 p, .slice A n c, .int .i64 (ns : Int), .int .i64 wo, .int .i64 qu, .int .i64 tr])] []) (by kernel_rfl) L (fun hHeld => ?_)
  generalize w3.drew = v4 at hHeld L ⊢
  refine wpAnyH_take (i := 0) (oi := ⟨some 40, _, _, _, _, _⟩) (v := .pointer (some ⟨gO, 13, none⟩)) rfl (by kernel_rfl) (by kernel_rfl) (by kernel_rfl) (fun _ _ _ h => h) (Or.inl ⟨by rfl, ?_⟩) hHeld ?_
  · (intro ww hS; go_simp; try with_reducible rfl; try omega)
  try simp only [Act.put, sA, sZ, sS]
  refine wpAnyH_take (i := 1) (oi := ⟨some 41, _, _, _, _, _⟩) (v := .int .u64 ((x : Nat) : Int)) rfl (by kernel_rfl) (by kernel_rfl) (by kernel_rfl) (fun _ _ _ h => h) (Or.inl ⟨by rfl, ?_⟩) hHeld ?_
  · intro ww hS
    try dsimp only at hS
    have O_13 := (hS).at_ 1 13 rfl (v := .int .u64 ((x : Nat) : Int)) rfl
    have O_z := (hS).lt 1 rfl
    go_simp
    try with_reducible rfl
    try omega
  try simp only [Act.put, sA, sZ, sS]
  refine wpAnyH_take (i := 2) (oi := ⟨some 42, _, _, _, _, _⟩) (v := .int .i64 (b : Int)) rfl (by kernel_rfl) (by kernel_rfl) (by kernel_rfl) (fun _ _ _ h => h) (Or.inl ⟨by rfl, ?_⟩) hHeld ?_
  · (intro ww hS; go_simp; try with_reducible rfl; try omega)
  try simp only [Act.put, sA, sZ, sS]
  refine wpAnyH_take (i := 4) (oi := ⟨some 44, _, _, _, _, _⟩) (v := .pointer (some ⟨gO, 14, none⟩)) rfl (by kernel_rfl) (by kernel_rfl) (by kernel_rfl) (fun _ _ _ h => h) (Or.inl ⟨by rfl, ?_⟩) hHeld ?_
  · (intro ww hS; go_simp; try with_reducible rfl; try omega)
  try simp only [Act.put, sA, sZ, sS]
  refine wpAnyH_take (i := 5) (oi := ⟨some 45, _, _, _, _, _⟩) (v := .bool true) rfl (by kernel_rfl) (by kernel_rfl) (by kernel_rfl) (fun _ _ _ h => h) (Or.inl ⟨by rfl, ?_⟩) hHeld ?_
  · intro ww hS
    try dsimp only at hS
    have O_14 := (hS).at_ 1 14 rfl (v := .bool true) rfl
    have O_z := (hS).lt 1 rfl
    go_simp
    try with_reducible rfl
    try omega
  try simp only [Act.put, sA, sZ, sS]
  refine wpAnyH_ready (rs := [3]) (by kernel_rfl) (by simp) ?_
  refine AllReadyH.cons (o := ⟨some 43, _, _, _, _, _⟩) rfl (fun K0 hK => ?_) AllReadyH.nil
  go_simp
  refine ((TH _).out).mono ?_
  rintro e w' ⟨rfl, rfl⟩
  refine hK.out _ _ L (fun hHeld' => ?_)
  clear hHeld hK K0
  have hHeld := hHeld'
  clear hHeld'
  try simp only [Act.put, sA, sZ, sS]
  refine wpAnyH_take (i := 6) (oi := ⟨some 46, _, _, _, _, _⟩) (v := .bool true) rfl (by kernel_rfl) (by kernel_rfl) (by kernel_rfl) (fun _ _ _ h => h) (Or.inl ⟨by rfl, ?_⟩) hHeld ?_
  · (intro ww hS; go_simp; try with_reducible rfl; try omega)
  try simp only [Act.put, sA, sZ, sS]
  refine wpAnyH_done (by kernel_rfl) ?_ _
  clear hHeld
  have O_8 := L.at_ 1 8 rfl (v := .int .i64 4) rfl
  have O_z := L.lt 1 rfl
  have O_f8 := L.fz 1 8 rfl
  go_upto_region 9 with fail
  clear O_8 O_z O_f8
  replace L := ((L.set 1 8 rfl (.int .i64 5)).is 1 (opv ⟨A0, n0, c0, A1, n1, c1, A2, n2, c2, A3, n3, c3⟩ ⟨1, addr, err, aad, used, 5, shard, sought, (lf : Int), bit, x, true, 1, tries, 0, stamp⟩) rfl)
  try dsimp only [nput] at L
  generalize (v4).setCell ⟨gO, 8, none⟩ (.int .i64 5) = w5 at L ⊢
  replace L := L.drew
  refine wp_region_held_drew (S := fun w' => ∃ v_R : Array Value, v_R.size = 20 ∧ Loc w w' [(gR, 40, v_R), (gO, 40, opv ⟨A0, n0, c0, A1, n1, c1, A2, n2, c2, A3, n3, c3⟩ ⟨1, addr, err, aad, used, 5, shard, sought, (lf : Int), bit, x, true, 1, tries, 0, stamp⟩), (gH, 27, #[.int .u32 (a : Int), .int .i64 p, .slice A n c, .int .i64 (ns : Int), .int .i64 wo, .int .i64 qu, .int .i64 tr])] []) (by kernel_rfl) (⟨_, rfl, L⟩) (fun hHeld => ?_)
  generalize w5.drew = v6 at hHeld L ⊢
  refine wpAnyH_take (i := 0) (oi := ⟨some 48, _, _, _, _, _⟩) (v := .slice (some ⟨bb, oo, none⟩) m d) rfl (by kernel_rfl) (by kernel_rfl) (by kernel_rfl) (fun _ _ _ h => h) (Or.inl ⟨by rfl, ?_⟩) hHeld ?_
  · (intro ww hS; go_simp; try with_reducible rfl; try omega)
  try simp only [Act.put, sA, sZ, sS]
  refine wpAnyH_take (i := 1) (oi := ⟨some 49, _, _, _, _, _⟩) (v := .agg (opv ⟨A0, n0, c0, A1, n1, c1, A2, n2, c2, A3, n3, c3⟩ ⟨1, addr, err, aad, used, 5, shard, sought, (lf : Int), bit, x, true, 1, tries, 0, stamp⟩)) rfl (by kernel_rfl) (by kernel_rfl) (by kernel_rfl) (fun _ _ _ h => h) (yieldsIf_load_row (by rfl) 40 (.tmp 5) rfl gO rfl 40 _ (0, 0) _ (fun _ hS => ((hS.choose_spec.2).bk_ 1 rfl)) Tryz.underlying40 rfl op_sz) hHeld ?_
  try simp only [Act.put, sA, sZ, sS]
  refine wpAnyH_take (i := 2) (oi := ⟨some 6, _, _, _, _, _⟩) (v := .slice (some ⟨bb, oo, none⟩) m d) rfl (by kernel_rfl) (by kernel_rfl) (by kernel_rfl) (fun _ _ _ h => h) (Or.inl ⟨by rfl, ?_⟩) hHeld ?_
  · (intro ww hS; go_simp; try with_reducible rfl; try omega)
  try simp only [Act.put, sA, sZ, sS]
  refine wpAnyH_ready (rs := [3]) (by kernel_rfl) (by simp) ?_
  refine AllReadyH.cons (o := ⟨none, _, _, _, _, _⟩) rfl (fun K0 hK => ?_) AllReadyH.nil
  rw [if_pos (by rfl)]
  refine wp_store_row 40 (.tmp 7) (.tmp 49) rfl gR _ rfl rfl _ _ (L.bk_ 0 rfl) op_sz rfl (opv_one _ _) ?_
  replace L := L.row 0 rfl (opv ⟨A0, n0, c0, A1, n1, c1, A2, n2, c2, A3, n3, c3⟩ ⟨1, addr, err, aad, used, 5, shard, sought, (lf : Int), bit, x, true, 1, tries, 0, stamp⟩)
  try dsimp only [nput] at L
  refine hK.out _ _ ⟨_, rfl, L⟩ (fun hHeld' => ?_)
  clear hHeld hK K0
  have hHeld := hHeld'
  clear hHeld'
  generalize v6.setRow gR (opv ⟨A0, n0, c0, A1, n1, c1, A2, n2, c2, A3, n3, c3⟩ ⟨1, addr, err, aad, used, 5, shard, sought, (lf : Int), bit, x, true, 1, tries, 0, stamp⟩) = v7 at hHeld L ⊢
  try simp only [Act.put]
  refine wpAnyH_done (by kernel_rfl) ?_ _
  clear hHeld
  go_wp2
  refine bodyPost_ret (v := .tuple #[.slice (some ⟨bb, oo, none⟩) m d, .agg (opv ⟨A0, n0, c0, A1, n1, c1, A2, n2, c2, A3, n3, c3⟩ ⟨1, addr, err, aad, used, 5, shard, sought, (lf : Int), bit, x, true, 1, tries, 0, stamp⟩)]) ?_ rfl ?_
  · exact results_tc (fn := Tryz.f43) Tryz.results43 _ _ gR _ _ (0, 0) _ rfl (L.bk_ 0 rfl) Tryz.underlying40 rfl op_sz
  exact ⟨_, _, rfl, hU.below L.K, fun k _ h => h, L.K⟩
set_option maxHeartbeats 2000000 in
theorem rmk_14ea (ha : a < 4294967296) (hM : Much a p M) (hL : Lists lo w h (gl [])) (hU : US w B m d ys) (hm : m = lv M + tv M + 1) (hk : s.kind = 1) (hit : s.item = 0) (hlf : s.leaf = (lf : Int)) (hlv : lf < lv M) (hw : s.word < 18446744073709551616) (hfu : s.full = true) (hcl : cl = lv M + tv M) (hb : b = lf / 64) (hat : s.at_ = 1) (hph : s.phase = 4) (hbit : (gt ys cl).testBit b = true) :
    Calls Tryz.prog 43 #[.agg #[.int .u32 (a : Int), .int .i64 p, .slice A n c, .int .i64 (ns : Int), .int .i64 wo, .int .i64 qu, .int .i64 tr], .slice B m d, .agg (opv h s)] w (RetRM (ende (worded s (gt ys cl))) h m ys B w) := by
  have hm9 := hM.most
  have hl3 := lv_le hm9
  have ht3 := tv_le hm9
  have hm6 : m ≤ 65536 := by omega
  have hb2 : b < 64 := by omega
  have hcm : cl < m := by omega
  obtain ⟨z0, z1, z2, z3⟩ := gl_len hL
  have TT := fun w => Lib.hid (rtop_any M lf hM.most (by omega) w)
  have TR := fun w => Lib.hid (rroot_any M lf hM.most (by omega) w)
  rw [← hcl, ← hb] at TR
  generalize (lv M + lf / 64) = q1 at TT
  generalize lf % 64 = q2 at TT
  obtain ⟨bb, oo, hBe, hbb, hcc⟩ := hU.get hcm
  subst hBe
  have TH := fun w => Lib.hid (rhas_any (gt ys cl) b (gt_lt hU.fit cl) hb2 w)
  rw [hbit] at TH
  clear hbit
  obtain ⟨x, hx⟩ : ∃ x, x = gt ys cl := ⟨_, rfl⟩
  rw [← hx] at hcc TH ⊢
  clear hx
  have TG := fun w => Lib.hid (rgoes_end0 (w := w) (h := h) (a := a) (p := p) (sh := (ns : Int)) (wo := wo) (qu := qu) (tr := tr) (A := A) (n := n) (c := c) (s := worded s x) (by show s.kind ≠ 4; omega))
  have hcm2 : (cl : Int) < (m : Int) := by omega
  clear hcl hb hL z0 z1 z2 z3 hm9 hl3 ht3 hm ha
  rcases s with ⟨kind, addr, err, aad, used, phase, shard, sought, leaf, bit, word, full, at_, tries, item, stamp⟩
  rcases h with ⟨A0, n0, c0, A1, n1, c1, A2, n2, c2, A3, n3, c3⟩
  try dsimp only at *
  subst hk hit hlf hat hph hfu
  go_enter Tryz.func43, Tryz.ntmps43
  go_upto_region 1 with (fail)
  have L := Loc.start w
  replace L := (((L).alloc #[.int .u32 (a : Int), .int .i64 p, .slice A n c, .int .i64 (ns : Int), .int .i64 wo, .int .i64 qu, .int .i64 tr] 27).alloc (opv ⟨A0, n0, c0, A1, n1, c1, A2, n2, c2, A3, n3, c3⟩ ⟨1, addr, err, aad, used, 4, shard, sought, (lf : Int), bit, word, true, 1, tries, 0, stamp⟩) 40).alloc #[.int .i64 0, .int .u32 0, .slice none 0 0, .int .i64 0, .int .u32 0, .bool false, .slice none 0 0, .slice none 0 0, .int .i64 0, .int .i64 0, .int .i64 0, .int .i64 0, .int .i64 0, .int .u64 0, .bool false, .slice none 0 0, .int .i64 0, .int .i64 0, .int .i64 0, .int .i64 0] 40
  try simp only [World.size_alloc] at L
  replace L := L.is 0 (opv hd0 sc0) rfl
  try dsimp only [nput] at L
  generalize (((w).alloc (.cells #[.int .u32 (a : Int), .int .i64 p, .slice A n c, .int .i64 (ns : Int), .int .i64 wo, .int .i64 qu, .int .i64 tr] 27)).alloc (.cells (opv ⟨A0, n0, c0, A1, n1, c1, A2, n2, c2, A3, n3, c3⟩ ⟨1, addr, err, aad, used, 4, shard, sought, (lf : Int), bit, word, true, 1, tries, 0, stamp⟩) 40)).alloc (.cells #[.int .i64 0, .int .u32 0, .slice none 0 0, .int .i64 0, .int .u32 0, .bool false, .slice none 0 0, .slice none 0 0, .int .i64 0, .int .i64 0, .int .i64 0, .int .i64 0, .int .i64 0, .int .u64 0, .bool false, .slice none 0 0, .int .i64 0, .int .i64 0, .int .i64 0, .int .i64 0] 40) = w1 at L ⊢
  generalize w.heap.size + 1 + 1 = gR at L ⊢
  generalize w.heap.size + 1 = gO at L ⊢
  generalize w.heap.size = gH at L ⊢
  have H_0 := L.at_ 2 0 rfl (v := .int .u32 (a : Int)) rfl
  have H_1 := L.at_ 2 1 rfl (v := .int .i64 p) rfl
  have H_z := L.lt 2 rfl
  go_wp2_with fail
  refine (rmany_yes hM).mono ?_
  rintro e w2 ⟨rfl, K'⟩
  clear H_0 H_1 H_z
  replace L := L.over K'
  have O_11 := L.at_ 1 11 rfl (v := .int .i64 (lf : Int)) rfl
  have O_z := L.lt 1 rfl
  go_wp2_with fail
  refine ((TT _).out).mono ?_
  rintro e w' ⟨rfl, rfl⟩
  clear O_11 O_z
  have O_16 := L.at_ 1 16 rfl (v := .int .i64 1) rfl
  have O_11 := L.at_ 1 11 rfl (v := .int .i64 (lf : Int)) rfl
  have O_z := L.lt 1 rfl
  go_wp2_with fail
  refine ((TR _).out).mono ?_
  rintro e w' ⟨rfl, rfl⟩
  clear O_16 O_11 O_z
  have O_8 := L.at_ 1 8 rfl (v := .int .i64 4) rfl
  have O_13 := L.at_ 1 13 rfl (v := .int .u64 ((word : Nat) : Int)) rfl
  have O_z := L.lt 1 rfl
  have O_f13 := L.fz 1 13 rfl
  have X := (L.K.cell (p := ⟨bb, oo + cl, none⟩) hbb).trans hcc
  go_upto_region 7 with fail
  clear O_8 O_13 O_z O_f13 X
  replace L := ((L.set 1 13 rfl (.int .u64 ((x : Nat) : Int))).is 1 (opv ⟨A0, n0, c0, A1, n1, c1, A2, n2, c2, A3, n3, c3⟩ ⟨1, addr, err, aad, used, 4, shard, sought, (lf : Int), bit, x, true, 1, tries, 0, stamp⟩) rfl)
  try dsimp only [nput] at L
  generalize (w2).setCell ⟨gO, 13, none⟩ (.int .u64 ((x : Nat) : Int)) = w3 at L ⊢
  replace L := L.drew
  refine wp_region_held_drew (S := fun w' => Loc w w' [(gR, 40, opv hd0 sc0), (gO, 40, opv ⟨A0, n0, c0, A1, n1, c1, A2, n2, c2, A3, n3, c3⟩ ⟨1, addr, err, aad, used, 4, shard, sought, (lf : Int), bit, x, true, 1, tries, 0, stamp⟩), (gH, 27, #[.int .u32 (a : Int), .int .i64 p, .slice A n c, .int .i64 (ns : Int), .int .i64 wo, .int .i64 qu, .int .i64 tr])] []) (by kernel_rfl) L (fun hHeld => ?_)
  generalize w3.drew = v4 at hHeld L ⊢
  refine wpAnyH_take (i := 0) (oi := ⟨some 40, _, _, _, _, _⟩) (v := .pointer (some ⟨gO, 13, none⟩)) rfl (by kernel_rfl) (by kernel_rfl) (by kernel_rfl) (fun _ _ _ h => h) (Or.inl ⟨by rfl, ?_⟩) hHeld ?_
  · (intro ww hS; go_simp; try with_reducible rfl; try omega)
  try simp only [Act.put, sA, sZ, sS]
  refine wpAnyH_take (i := 1) (oi := ⟨some 41, _, _, _, _, _⟩) (v := .int .u64 ((x : Nat) : Int)) rfl (by kernel_rfl) (by kernel_rfl) (by kernel_rfl) (fun _ _ _ h => h) (Or.inl ⟨by rfl, ?_⟩) hHeld ?_
  · intro ww hS
    try dsimp only at hS
    have O_13 := (hS).at_ 1 13 rfl (v := .int .u64 ((x : Nat) : Int)) rfl
    have O_z := (hS).lt 1 rfl
    go_simp
    try with_reducible rfl
    try omega
  try simp only [Act.put, sA, sZ, sS]
  refine wpAnyH_take (i := 2) (oi := ⟨some 42, _, _, _, _, _⟩) (v := .int .i64 (b : Int)) rfl (by kernel_rfl) (by kernel_rfl) (by kernel_rfl) (fun _ _ _ h => h) (Or.inl ⟨by rfl, ?_⟩) hHeld ?_
  · (intro ww hS; go_simp; try with_reducible rfl; try omega)
  try simp only [Act.put, sA, sZ, sS]
  refine wpAnyH_take (i := 4) (oi := ⟨some 44, _, _, _, _, _⟩) (v := .pointer (some ⟨gO, 14, none⟩)) rfl (by kernel_rfl) (by kernel_rfl) (by kernel_rfl) (fun _ _ _ h => h) (Or.inl ⟨by rfl, ?_⟩) hHeld ?_
  · (intro ww hS; go_simp; try with_reducible rfl; try omega)
  try simp only [Act.put, sA, sZ, sS]
  refine wpAnyH_take (i := 5) (oi := ⟨some 45, _, _, _, _, _⟩) (v := .bool true) rfl (by kernel_rfl) (by kernel_rfl) (by kernel_rfl) (fun _ _ _ h => h) (Or.inl ⟨by rfl, ?_⟩) hHeld ?_
  · intro ww hS
    try dsimp only at hS
    have O_14 := (hS).at_ 1 14 rfl (v := .bool true) rfl
    have O_z := (hS).lt 1 rfl
    go_simp
    try with_reducible rfl
    try omega
  try simp only [Act.put, sA, sZ, sS]
  refine wpAnyH_ready (rs := [3]) (by kernel_rfl) (by simp) ?_
  refine AllReadyH.cons (o := ⟨some 43, _, _, _, _, _⟩) rfl (fun K0 hK => ?_) AllReadyH.nil
  go_simp
  refine ((TH _).out).mono ?_
  rintro e w' ⟨rfl, rfl⟩
  refine hK.out _ _ L (fun hHeld' => ?_)
  clear hHeld hK K0
  have hHeld := hHeld'
  clear hHeld'
  try simp only [Act.put, sA, sZ, sS]
  refine wpAnyH_take (i := 6) (oi := ⟨some 46, _, _, _, _, _⟩) (v := .bool false) rfl (by kernel_rfl) (by kernel_rfl) (by kernel_rfl) (fun _ _ _ h => h) (Or.inl ⟨by rfl, ?_⟩) hHeld ?_
  · (intro ww hS; go_simp; try with_reducible rfl; try omega)
  try simp only [Act.put, sA, sZ, sS]
  refine wpAnyH_done (by kernel_rfl) ?_ _
  clear hHeld
  have O_16 := L.at_ 1 16 rfl (v := .int .i64 1) rfl
  have O_z := L.lt 1 rfl
  go_upto_region 17 with fail
  clear O_16 O_z
  go_wp2_with (first | (refine wpList_load_row rfl 27 (.tmp 3) rfl gH rfl _ _ (0, 0) _ (L.bk_ 2 rfl) Tryz.underlying27 rfl cf_sz ?_) | (refine wpList_load_row rfl 40 (.tmp 5) rfl gO rfl _ _ (0, 0) _ (L.bk_ 1 rfl) Tryz.underlying40 rfl op_sz ?_))
  refine ((TG _).out).mono ?_
  rintro e w5 ⟨rfl, K'⟩
  replace L := L.over K'
  go_wp2_with (refine wpList_store_row rfl 40 (.tmp 7) (.tmp 88) rfl gR _ rfl rfl _ _ (L.bk_ 0 rfl) op_sz rfl (opv_one _ _) ?_)
  replace L := (L.row 0 rfl (opv ⟨A0, n0, c0, A1, n1, c1, A2, n2, c2, A3, n3, c3⟩ (ende (worded ⟨1, addr, err, aad, used, 4, shard, sought, (lf : Int), bit, word, true, 1, tries, 0, stamp⟩ x))))
  try dsimp only [nput] at L
  generalize (w5).setRow gR (opv ⟨A0, n0, c0, A1, n1, c1, A2, n2, c2, A3, n3, c3⟩ (ende (worded ⟨1, addr, err, aad, used, 4, shard, sought, (lf : Int), bit, word, true, 1, tries, 0, stamp⟩ x))) = w6 at L ⊢
  refine bodyPost_ret (v := .tuple #[.slice (some ⟨bb, oo, none⟩) m d, .agg (opv ⟨A0, n0, c0, A1, n1, c1, A2, n2, c2, A3, n3, c3⟩ (ende (worded ⟨1, addr, err, aad, used, 4, shard, sought, (lf : Int), bit, word, true, 1, tries, 0, stamp⟩ x)))]) ?_ rfl ?_
  · exact results_tc (fn := Tryz.f43) Tryz.results43 _ _ gR _ _ (0, 0) _ rfl (L.bk_ 0 rfl) Tryz.underlying40 rfl op_sz
  exact ⟨_, _, rfl, hU.below L.K, fun k _ h => h, L.K⟩
set_option maxHeartbeats 2000000 in
theorem rmk_15ya (ha : a < 4294967296) (hM : Much a p M) (hL : Lists lo w h (gl [])) (hU : US w B m d ys) (hm : m = lv M + tv M + 1) (hk : s.kind = 1) (hit : s.item = 0) (hlf : s.leaf = (lf : Int)) (hlv : lf < lv M) (hw : s.word < 18446744073709551616) (hfu : s.full = true) (hcl : cl = lv M + tv M) (hb : b = lf / 64) (hat : s.at_ = 1) (hph : s.phase = 5) (heq : gt ys cl = s.word) :
    Calls Tryz.prog 43 #[.agg #[.int .u32 (a : Int), .int .i64 p, .slice A n c, .int .i64 (ns : Int), .int .i64 wo, .int .i64 qu, .int .i64 tr], .slice B m d, .agg (opv h s)] w (RetRM (ende (worded s (setb s.word b))) h m (ys.set cl (setb s.word b)) B w) := by
  have hm9 := hM.most
  have hl3 := lv_le hm9
  have ht3 := tv_le hm9
  have hm6 : m ≤ 65536 := by omega
  have hb2 : b < 64 := by omega
  have hcm : cl < m := by omega
  obtain ⟨z0, z1, z2, z3⟩ := gl_len hL
  have TT := fun w => Lib.hid (rtop_any M lf hM.most (by omega) w)
  have TR := fun w => Lib.hid (rroot_any M lf hM.most (by omega) w)
  rw [← hcl, ← hb] at TR
  generalize (lv M + lf / 64) = q1 at TT
  generalize lf % 64 = q2 at TT
  obtain ⟨bb, oo, hBe, hbb, hcc⟩ := hU.get hcm
  subst hBe
  have TL := fun w => Lib.hid (rclear_any s.word b hw hb2 w)
  have TSt := fun w => Lib.hid (rset_any s.word b hw hb2 w)
  have hy := setb_lt hw hb2
  obtain ⟨y, hy1⟩ : ∃ y, y = setb s.word b := ⟨_, rfl⟩
  rw [← hy1] at hy ⊢
  replace TSt := fun w => Lib.hid ((show setb s.word b = y from hy1.symm) ▸ (TSt w).out)
  generalize clrb s.word b = z at TL
  clear hy1
  rw [heq] at hcc
  have f1 : ((s.word : Int) == (s.word : Int)) = true := by simp
  have TSe : ∀ w, US w (some ⟨bb, oo, none⟩) m d ys → Hid (Calls Tryz.prog 35 #[.slice (some ⟨bb, oo, none⟩) m d, .int .i64 (cl : Nat), .int .u64 (y : Nat)] w (RetSM m (ys.set cl y) w)) := fun w U => by have := crset_new U (cl : Int) hm6 hy; rw [stI_nat] at this; exact this
  clear heq
  have TG := fun w => Lib.hid (rgoes_end0 (w := w) (h := h) (a := a) (p := p) (sh := (ns : Int)) (wo := wo) (qu := qu) (tr := tr) (A := A) (n := n) (c := c) (s := worded s y) (by show s.kind ≠ 4; omega))
  have hcm2 : (cl : Int) < (m : Int) := by omega
  clear hcl hb hL z0 z1 z2 z3 hm9 hl3 ht3 hm ha
  rcases s with ⟨kind, addr, err, aad, used, phase, shard, sought, leaf, bit, word, full, at_, tries, item, stamp⟩
  rcases h with ⟨A0, n0, c0, A1, n1, c1, A2, n2, c2, A3, n3, c3⟩
  try dsimp only at *
  subst hk hit hlf hat hph hfu
  go_enter Tryz.func43, Tryz.ntmps43
  go_upto_region 1 with (fail)
  have L := Loc.start w
  replace L := (((L).alloc #[.int .u32 (a : Int), .int .i64 p, .slice A n c, .int .i64 (ns : Int), .int .i64 wo, .int .i64 qu, .int .i64 tr] 27).alloc (opv ⟨A0, n0, c0, A1, n1, c1, A2, n2, c2, A3, n3, c3⟩ ⟨1, addr, err, aad, used, 5, shard, sought, (lf : Int), bit, word, true, 1, tries, 0, stamp⟩) 40).alloc #[.int .i64 0, .int .u32 0, .slice none 0 0, .int .i64 0, .int .u32 0, .bool false, .slice none 0 0, .slice none 0 0, .int .i64 0, .int .i64 0, .int .i64 0, .int .i64 0, .int .i64 0, .int .u64 0, .bool false, .slice none 0 0, .int .i64 0, .int .i64 0, .int .i64 0, .int .i64 0] 40
  try simp only [World.size_alloc] at L
  replace L := L.is 0 (opv hd0 sc0) rfl
  try dsimp only [nput] at L
  generalize (((w).alloc (.cells #[.int .u32 (a : Int), .int .i64 p, .slice A n c, .int .i64 (ns : Int), .int .i64 wo, .int .i64 qu, .int .i64 tr] 27)).alloc (.cells (opv ⟨A0, n0, c0, A1, n1, c1, A2, n2, c2, A3, n3, c3⟩ ⟨1, addr, err, aad, used, 5, shard, sought, (lf : Int), bit, word, true, 1, tries, 0, stamp⟩) 40)).alloc (.cells #[.int .i64 0, .int .u32 0, .slice none 0 0, .int .i64 0, .int .u32 0, .bool false, .slice none 0 0, .slice none 0 0, .int .i64 0, .int .i64 0, .int .i64 0, .int .i64 0, .int .i64 0, .int .u64 0, .bool false, .slice none 0 0, .int .i64 0, .int .i64 0, .int .i64 0, .int .i64 0] 40) = w1 at L ⊢
  generalize w.heap.size + 1 + 1 = gR at L ⊢
  generalize w.heap.size + 1 = gO at L ⊢
  generalize w.heap.size = gH at L ⊢
  have H_0 := L.at_ 2 0 rfl (v := .int .u32 (a : Int)) rfl
  have H_1 := L.at_ 2 1 rfl (v := .int .i64 p) rfl
  have H_z := L.lt 2 rfl
  go_wp2_with fail
  refine (rmany_yes hM).mono ?_
  rintro e w2 ⟨rfl, K'⟩
  clear H_0 H_1 H_z
  replace L := L.over K'
  have O_11 := L.at_ 1 11 rfl (v := .int .i64 (lf : Int)) rfl
  have O_z := L.lt 1 rfl
  go_wp2_with fail
  refine ((TT _).out).mono ?_
  rintro e w' ⟨rfl, rfl⟩
  clear O_11 O_z
  have O_16 := L.at_ 1 16 rfl (v := .int .i64 1) rfl
  have O_11 := L.at_ 1 11 rfl (v := .int .i64 (lf : Int)) rfl
  have O_z := L.lt 1 rfl
  go_wp2_with fail
  refine ((TR _).out).mono ?_
  rintro e w' ⟨rfl, rfl⟩
  clear O_16 O_11 O_z
  have O_8 := L.at_ 1 8 rfl (v := .int .i64 5) rfl
  have O_13 := L.at_ 1 13 rfl (v := .int .u64 ((word : Nat) : Int)) rfl
  have O_z := L.lt 1 rfl
  go_wp2_with fail
  refine ((TL _).out).mono ?_
  rintro e w' ⟨rfl, rfl⟩
  clear O_8 O_13 O_z
  have O_14 := L.at_ 1 14 rfl (v := .bool true) rfl
  have O_13 := L.at_ 1 13 rfl (v := .int .u64 ((word : Nat) : Int)) rfl
  have O_z := L.lt 1 rfl
  go_wp2_with fail
  refine ((TSt _).out).mono ?_
  rintro e w' ⟨rfl, rfl⟩
  clear O_14 O_13 O_z
  go_upto_region 13 with (fail)
  replace L := L.drew
  refine wp_region_held_drew (S := fun w' => Loc w w' [(gR, 40, opv hd0 sc0), (gO, 40, opv ⟨A0, n0, c0, A1, n1, c1, A2, n2, c2, A3, n3, c3⟩ ⟨1, addr, err, aad, used, 5, shard, sought, (lf : Int), bit, word, true, 1, tries, 0, stamp⟩), (gH, 27, #[.int .u32 (a : Int), .int .i64 p, .slice A n c, .int .i64 (ns : Int), .int .i64 wo, .int .i64 qu, .int .i64 tr])] []) (by kernel_rfl) L (fun hHeld => ?_)
  generalize w2.drew = v3 at hHeld L ⊢
  refine wpAnyH_take (i := 0) (oi := ⟨some 60, _, _, _, _, _⟩) (v := .slice (some ⟨bb, oo, none⟩) m d) rfl (by kernel_rfl) (by kernel_rfl) (by kernel_rfl) (fun _ _ _ h => h) (Or.inl ⟨by rfl, ?_⟩) hHeld ?_
  · (intro ww hS; go_simp; try with_reducible rfl; try omega)
  try simp only [Act.put, sA, sZ, sS]
  refine wpAnyH_take (i := 1) (oi := ⟨some 61, _, _, _, _, _⟩) (v := .int .i64 (cl : Int)) rfl (by kernel_rfl) (by kernel_rfl) (by kernel_rfl) (fun _ _ _ h => h) (Or.inl ⟨by rfl, ?_⟩) hHeld ?_
  · (intro ww hS; go_simp; try with_reducible rfl; try omega)
  try simp only [Act.put, sA, sZ, sS]
  refine wpAnyH_take (i := 2) (oi := ⟨some 62, _, _, _, _, _⟩) (v := .pointer (some ⟨bb, oo + cl, none⟩)) rfl (by kernel_rfl) (by kernel_rfl) (by kernel_rfl) (fun _ _ _ h => h) (Or.inl ⟨by rfl, ?_⟩) hHeld ?_
  · (intro ww hS; go_simp; try with_reducible rfl; try omega)
  try simp only [Act.put, sA, sZ, sS]
  refine wpAnyH_take (i := 3) (oi := ⟨some 63, _, _, _, _, _⟩) (v := .int .u64 ((word : Nat) : Int)) rfl (by kernel_rfl) (by kernel_rfl) (by kernel_rfl) (fun _ _ _ h => h) (Or.inl ⟨by rfl, ?_⟩) hHeld ?_
  · intro ww hS
    try dsimp only at hS
    have X := (((hS)).K.cell (p := ⟨bb, oo + cl, none⟩) hbb).trans hcc
    go_simp
    try with_reducible rfl
    try omega
  try simp only [Act.put, sA, sZ, sS]
  refine wpAnyH_take (i := 4) (oi := ⟨some 64, _, _, _, _, _⟩) (v := .pointer (some ⟨gO, 13, none⟩)) rfl (by kernel_rfl) (by kernel_rfl) (by kernel_rfl) (fun _ _ _ h => h) (Or.inl ⟨by rfl, ?_⟩) hHeld ?_
  · (intro ww hS; go_simp; try with_reducible rfl; try omega)
  try simp only [Act.put, sA, sZ, sS]
  refine wpAnyH_take (i := 5) (oi := ⟨some 65, _, _, _, _, _⟩) (v := .int .u64 ((word : Nat) : Int)) rfl (by kernel_rfl) (by kernel_rfl) (by kernel_rfl) (fun _ _ _ h => h) (Or.inl ⟨by rfl, ?_⟩) hHeld ?_
  · intro ww hS
    try dsimp only at hS
    have O_13 := (hS).at_ 1 13 rfl (v := .int .u64 ((word : Nat) : Int)) rfl
    have O_z := (hS).lt 1 rfl
    go_simp
    try with_reducible rfl
    try omega
  try simp only [Act.put, sA, sZ, sS]
  refine wpAnyH_take (i := 6) (oi := ⟨some 66, _, _, _, _, _⟩) (v := .bool true) rfl (by kernel_rfl) (by kernel_rfl) (by kernel_rfl) (fun _ _ _ h => h) (Or.inl ⟨by rfl, ?_⟩) hHeld ?_
  · (intro ww hS; go_simp; try with_reducible rfl; try omega)
  try simp only [Act.put, sA, sZ, sS]
  refine wpAnyH_done (by kernel_rfl) ?_ _
  clear hHeld
  go_wp2_with fail
  have KS := L.K.size
  refine ((TSe _ (hU.below L.K)).out).mono ?_
  rintro e w4 ⟨gS, dS, rfl, U, hgS, K'⟩
  have Lb := L.lts
  replace L := L.over K'
  replace L := L.us_av (fun i b e b' o e' => by injection e' with e'; injection e' with e1; have := Lb i b e; omega) U
  clear Lb
  try dsimp only [lF, List.cons_append, List.nil_append] at L
  clear U
  have O_13 := L.at_ 1 13 rfl (v := .int .u64 ((word : Nat) : Int)) rfl
  have O_z := L.lt 1 rfl
  have O_f13 := L.fz 1 13 rfl
  go_upto_region 16 with fail
  clear O_13 O_z O_f13
  replace L := ((L.set 1 13 rfl (.int .u64 ((y : Nat) : Int))).is 1 (opv ⟨A0, n0, c0, A1, n1, c1, A2, n2, c2, A3, n3, c3⟩ ⟨1, addr, err, aad, used, 5, shard, sought, (lf : Int), bit, y, true, 1, tries, 0, stamp⟩) rfl)
  try dsimp only [nput] at L
  generalize (w4).setCell ⟨gO, 13, none⟩ (.int .u64 ((y : Nat) : Int)) = w5 at L ⊢
  have O_16 := L.at_ 1 16 rfl (v := .int .i64 1) rfl
  have O_z := L.lt 1 rfl
  go_upto_region 17 with fail
  clear O_16 O_z
  go_wp2_with (first | (refine wpList_load_row rfl 27 (.tmp 3) rfl gH rfl _ _ (0, 0) _ (L.bk_ 2 rfl) Tryz.underlying27 rfl cf_sz ?_) | (refine wpList_load_row rfl 40 (.tmp 5) rfl gO rfl _ _ (0, 0) _ (L.bk_ 1 rfl) Tryz.underlying40 rfl op_sz ?_))
  refine ((TG _).out).mono ?_
  rintro e w6 ⟨rfl, K'⟩
  replace L := L.over K'
  go_wp2_with (refine wpList_store_row rfl 40 (.tmp 7) (.tmp 88) rfl gR _ rfl rfl _ _ (L.bk_ 0 rfl) op_sz rfl (opv_one _ _) ?_)
  replace L := (L.row 0 rfl (opv ⟨A0, n0, c0, A1, n1, c1, A2, n2, c2, A3, n3, c3⟩ (ende (worded ⟨1, addr, err, aad, used, 5, shard, sought, (lf : Int), bit, word, true, 1, tries, 0, stamp⟩ y))))
  try dsimp only [nput] at L
  generalize (w6).setRow gR (opv ⟨A0, n0, c0, A1, n1, c1, A2, n2, c2, A3, n3, c3⟩ (ende (worded ⟨1, addr, err, aad, used, 5, shard, sought, (lf : Int), bit, word, true, 1, tries, 0, stamp⟩ y))) = w7 at L ⊢
  refine bodyPost_ret (v := .tuple #[.slice (some ⟨gS, 0, none⟩) m dS, .agg (opv ⟨A0, n0, c0, A1, n1, c1, A2, n2, c2, A3, n3, c3⟩ (ende (worded ⟨1, addr, err, aad, used, 5, shard, sought, (lf : Int), bit, word, true, 1, tries, 0, stamp⟩ y)))]) ?_ rfl ?_
  · exact results_tc (fn := Tryz.f43) Tryz.results43 _ _ gR _ _ (0, 0) _ rfl (L.bk_ 0 rfl) Tryz.underlying40 rfl op_sz
  exact ⟨_, _, rfl, L.us_ 0 rfl, (fun i hi _ b o e => by injection e with e; injection e with e1; omega), L.K⟩
set_option maxHeartbeats 2000000 in
theorem rmk_15na (ha : a < 4294967296) (hM : Much a p M) (hL : Lists lo w h (gl [])) (hU : US w B m d ys) (hm : m = lv M + tv M + 1) (hk : s.kind = 1) (hit : s.item = 0) (hlf : s.leaf = (lf : Int)) (hlv : lf < lv M) (hw : s.word < 18446744073709551616) (hfu : s.full = true) (hcl : cl = lv M + tv M) (hb : b = lf / 64) (hat : s.at_ = 1) (hph : s.phase = 5) (heq : gt ys cl ≠ s.word) :
    Calls Tryz.prog 43 #[.agg #[.int .u32 (a : Int), .int .i64 p, .slice A n c, .int .i64 (ns : Int), .int .i64 wo, .int .i64 qu, .int .i64 tr], .slice B m d, .agg (opv h s)] w (RetRM (ende (worded s (setb s.word b))) h m ys B w) := by
  have hm9 := hM.most
  have hl3 := lv_le hm9
  have ht3 := tv_le hm9
  have hm6 : m ≤ 65536 := by omega
  have hb2 : b < 64 := by omega
  have hcm : cl < m := by omega
  obtain ⟨z0, z1, z2, z3⟩ := gl_len hL
  have TT := fun w => Lib.hid (rtop_any M lf hM.most (by omega) w)
  have TR := fun w => Lib.hid (rroot_any M lf hM.most (by omega) w)
  rw [← hcl, ← hb] at TR
  generalize (lv M + lf / 64) = q1 at TT
  generalize lf % 64 = q2 at TT
  obtain ⟨bb, oo, hBe, hbb, hcc⟩ := hU.get hcm
  subst hBe
  have TL := fun w => Lib.hid (rclear_any s.word b hw hb2 w)
  have TSt := fun w => Lib.hid (rset_any s.word b hw hb2 w)
  have hy := setb_lt hw hb2
  obtain ⟨y, hy1⟩ : ∃ y, y = setb s.word b := ⟨_, rfl⟩
  rw [← hy1] at hy ⊢
  replace TSt := fun w => Lib.hid ((show setb s.word b = y from hy1.symm) ▸ (TSt w).out)
  generalize clrb s.word b = z at TL
  clear hy1
  obtain ⟨x, hx⟩ : ∃ x, x = gt ys cl := ⟨_, rfl⟩
  rw [← hx] at hcc heq
  have f1 : ((x : Int) == (s.word : Int)) = false := by simp; omega
  clear hx
  clear heq
  have TG := fun w => Lib.hid (rgoes_end0 (w := w) (h := h) (a := a) (p := p) (sh := (ns : Int)) (wo := wo) (qu := qu) (tr := tr) (A := A) (n := n) (c := c) (s := worded s y) (by show s.kind ≠ 4; omega))
  have hcm2 : (cl : Int) < (m : Int) := by omega
  clear hcl hb hL z0 z1 z2 z3 hm9 hl3 ht3 hm ha
  rcases s with ⟨kind, addr, err, aad, used, phase, shard, sought, leaf, bit, word, full, at_, tries, item, stamp⟩
  rcases h with ⟨A0, n0, c0, A1, n1, c1, A2, n2, c2, A3, n3, c3⟩
  try dsimp only at *
  subst hk hit hlf hat hph hfu
  go_enter Tryz.func43, Tryz.ntmps43
  go_upto_region 1 with (fail)
  have L := Loc.start w
  replace L := (((L).alloc #[.int .u32 (a : Int), .int .i64 p, .slice A n c, .int .i64 (ns : Int), .int .i64 wo, .int .i64 qu, .int .i64 tr] 27).alloc (opv ⟨A0, n0, c0, A1, n1, c1, A2, n2, c2, A3, n3, c3⟩ ⟨1, addr, err, aad, used, 5, shard, sought, (lf : Int), bit, word, true, 1, tries, 0, stamp⟩) 40).alloc #[.int .i64 0, .int .u32 0, .slice none 0 0, .int .i64 0, .int .u32 0, .bool false, .slice none 0 0, .slice none 0 0, .int .i64 0, .int .i64 0, .int .i64 0, .int .i64 0, .int .i64 0, .int .u64 0, .bool false, .slice none 0 0, .int .i64 0, .int .i64 0, .int .i64 0, .int .i64 0] 40
  try simp only [World.size_alloc] at L
  replace L := L.is 0 (opv hd0 sc0) rfl
  try dsimp only [nput] at L
  generalize (((w).alloc (.cells #[.int .u32 (a : Int), .int .i64 p, .slice A n c, .int .i64 (ns : Int), .int .i64 wo, .int .i64 qu, .int .i64 tr] 27)).alloc (.cells (opv ⟨A0, n0, c0, A1, n1, c1, A2, n2, c2, A3, n3, c3⟩ ⟨1, addr, err, aad, used, 5, shard, sought, (lf : Int), bit, word, true, 1, tries, 0, stamp⟩) 40)).alloc (.cells #[.int .i64 0, .int .u32 0, .slice none 0 0, .int .i64 0, .int .u32 0, .bool false, .slice none 0 0, .slice none 0 0, .int .i64 0, .int .i64 0, .int .i64 0, .int .i64 0, .int .i64 0, .int .u64 0, .bool false, .slice none 0 0, .int .i64 0, .int .i64 0, .int .i64 0, .int .i64 0] 40) = w1 at L ⊢
  generalize w.heap.size + 1 + 1 = gR at L ⊢
  generalize w.heap.size + 1 = gO at L ⊢
  generalize w.heap.size = gH at L ⊢
  have H_0 := L.at_ 2 0 rfl (v := .int .u32 (a : Int)) rfl
  have H_1 := L.at_ 2 1 rfl (v := .int .i64 p) rfl
  have H_z := L.lt 2 rfl
  go_wp2_with fail
  refine (rmany_yes hM).mono ?_
  rintro e w2 ⟨rfl, K'⟩
  clear H_0 H_1 H_z
  replace L := L.over K'
  have O_11 := L.at_ 1 11 rfl (v := .int .i64 (lf : Int)) rfl
  have O_z := L.lt 1 rfl
  go_wp2_with fail
  refine ((TT _).out).mono ?_
  rintro e w' ⟨rfl, rfl⟩
  clear O_11 O_z
  have O_16 := L.at_ 1 16 rfl (v := .int .i64 1) rfl
  have O_11 := L.at_ 1 11 rfl (v := .int .i64 (lf : Int)) rfl
  have O_z := L.lt 1 rfl
  go_wp2_with fail
  refine ((TR _).out).mono ?_
  rintro e w' ⟨rfl, rfl⟩
  clear O_16 O_11 O_z
  have O_8 := L.at_ 1 8 rfl (v := .int .i64 5) rfl
  have O_13 := L.at_ 1 13 rfl (v := .int .u64 ((word : Nat) : Int)) rfl
  have O_z := L.lt 1 rfl
  go_wp2_with fail
  refine ((TL _).out).mono ?_
  rintro e w' ⟨rfl, rfl⟩
  clear O_8 O_13 O_z
  have O_14 := L.at_ 1 14 rfl (v := .bool true) rfl
  have O_13 := L.at_ 1 13 rfl (v := .int .u64 ((word : Nat) : Int)) rfl
  have O_z := L.lt 1 rfl
  go_wp2_with fail
  refine ((TSt _).out).mono ?_
  rintro e w' ⟨rfl, rfl⟩
  clear O_14 O_13 O_z
  go_upto_region 13 with (fail)
  replace L := L.drew
  refine wp_region_held_drew (S := fun w' => Loc w w' [(gR, 40, opv hd0 sc0), (gO, 40, opv ⟨A0, n0, c0, A1, n1, c1, A2, n2, c2, A3, n3, c3⟩ ⟨1, addr, err, aad, used, 5, shard, sought, (lf : Int), bit, word, true, 1, tries, 0, stamp⟩), (gH, 27, #[.int .u32 (a : Int), .int .i64 p, .slice A n c, .int .i64 (ns : Int), .int .i64 wo, .int .i64 qu, .int .i64 tr])] []) (by kernel_rfl) L (fun hHeld => ?_)
  generalize w2.drew = v3 at hHeld L ⊢
  refine wpAnyH_take (i := 0) (oi := ⟨some 60, _, _, _, _, _⟩) (v := .slice (some ⟨bb, oo, none⟩) m d) rfl (by kernel_rfl) (by kernel_rfl) (by kernel_rfl) (fun _ _ _ h => h) (Or.inl ⟨by rfl, ?_⟩) hHeld ?_
  · (intro ww hS; go_simp; try with_reducible rfl; try omega)
  try simp only [Act.put, sA, sZ, sS]
  refine wpAnyH_take (i := 1) (oi := ⟨some 61, _, _, _, _, _⟩) (v := .int .i64 (cl : Int)) rfl (by kernel_rfl) (by kernel_rfl) (by kernel_rfl) (fun _ _ _ h => h) (Or.inl ⟨by rfl, ?_⟩) hHeld ?_
  · (intro ww hS; go_simp; try with_reducible rfl; try omega)
  try simp only [Act.put, sA, sZ, sS]
  refine wpAnyH_take (i := 2) (oi := ⟨some 62, _, _, _, _, _⟩) (v := .pointer (some ⟨bb, oo + cl, none⟩)) rfl (by kernel_rfl) (by kernel_rfl) (by kernel_rfl) (fun _ _ _ h => h) (Or.inl ⟨by rfl, ?_⟩) hHeld ?_
  · (intro ww hS; go_simp; try with_reducible rfl; try omega)
  try simp only [Act.put, sA, sZ, sS]
  refine wpAnyH_take (i := 3) (oi := ⟨some 63, _, _, _, _, _⟩) (v := .int .u64 ((x : Nat) : Int)) rfl (by kernel_rfl) (by kernel_rfl) (by kernel_rfl) (fun _ _ _ h => h) (Or.inl ⟨by rfl, ?_⟩) hHeld ?_
  · intro ww hS
    try dsimp only at hS
    have X := (((hS)).K.cell (p := ⟨bb, oo + cl, none⟩) hbb).trans hcc
    go_simp
    try with_reducible rfl
    try omega
  try simp only [Act.put, sA, sZ, sS]
  refine wpAnyH_take (i := 4) (oi := ⟨some 64, _, _, _, _, _⟩) (v := .pointer (some ⟨gO, 13, none⟩)) rfl (by kernel_rfl) (by kernel_rfl) (by kernel_rfl) (fun _ _ _ h => h) (Or.inl ⟨by rfl, ?_⟩) hHeld ?_
  · (intro ww hS; go_simp; try with_reducible rfl; try omega)
  try simp only [Act.put, sA, sZ, sS]
  refine wpAnyH_take (i := 5) (oi := ⟨some 65, _, _, _, _, _⟩) (v := .int .u64 ((word : Nat) : Int)) rfl (by kernel_rfl) (by kernel_rfl) (by kernel_rfl) (fun _ _ _ h => h) (Or.inl ⟨by rfl, ?_⟩) hHeld ?_
  · intro ww hS
    try dsimp only at hS
    have O_13 := (hS).at_ 1 13 rfl (v := .int .u64 ((word : Nat) : Int)) rfl
    have O_z := (hS).lt 1 rfl
    go_simp
    try with_reducible rfl
    try omega
  try simp only [Act.put, sA, sZ, sS]
  refine wpAnyH_take (i := 6) (oi := ⟨some 66, _, _, _, _, _⟩) (v := .bool false) rfl (by kernel_rfl) (by kernel_rfl) (by kernel_rfl) (fun _ _ _ h => h) (Or.inl ⟨by rfl, ?_⟩) hHeld ?_
  · (intro ww hS; go_simp; try with_reducible rfl; try omega)
  try simp only [Act.put, sA, sZ, sS]
  refine wpAnyH_done (by kernel_rfl) ?_ _
  clear hHeld
  have O_13 := L.at_ 1 13 rfl (v := .int .u64 ((word : Nat) : Int)) rfl
  have O_z := L.lt 1 rfl
  have O_f13 := L.fz 1 13 rfl
  go_upto_region 16 with fail
  clear O_13 O_z O_f13
  replace L := ((L.set 1 13 rfl (.int .u64 ((y : Nat) : Int))).is 1 (opv ⟨A0, n0, c0, A1, n1, c1, A2, n2, c2, A3, n3, c3⟩ ⟨1, addr, err, aad, used, 5, shard, sought, (lf : Int), bit, y, true, 1, tries, 0, stamp⟩) rfl)
  try dsimp only [nput] at L
  generalize (v3).setCell ⟨gO, 13, none⟩ (.int .u64 ((y : Nat) : Int)) = w4 at L ⊢
  have O_16 := L.at_ 1 16 rfl (v := .int .i64 1) rfl
  have O_z := L.lt 1 rfl
  go_upto_region 17 with fail
  clear O_16 O_z
  go_wp2_with (first | (refine wpList_load_row rfl 27 (.tmp 3) rfl gH rfl _ _ (0, 0) _ (L.bk_ 2 rfl) Tryz.underlying27 rfl cf_sz ?_) | (refine wpList_load_row rfl 40 (.tmp 5) rfl gO rfl _ _ (0, 0) _ (L.bk_ 1 rfl) Tryz.underlying40 rfl op_sz ?_))
  refine ((TG _).out).mono ?_
  rintro e w5 ⟨rfl, K'⟩
  replace L := L.over K'
  go_wp2_with (refine wpList_store_row rfl 40 (.tmp 7) (.tmp 88) rfl gR _ rfl rfl _ _ (L.bk_ 0 rfl) op_sz rfl (opv_one _ _) ?_)
  replace L := (L.row 0 rfl (opv ⟨A0, n0, c0, A1, n1, c1, A2, n2, c2, A3, n3, c3⟩ (ende (worded ⟨1, addr, err, aad, used, 5, shard, sought, (lf : Int), bit, word, true, 1, tries, 0, stamp⟩ y))))
  try dsimp only [nput] at L
  generalize (w5).setRow gR (opv ⟨A0, n0, c0, A1, n1, c1, A2, n2, c2, A3, n3, c3⟩ (ende (worded ⟨1, addr, err, aad, used, 5, shard, sought, (lf : Int), bit, word, true, 1, tries, 0, stamp⟩ y))) = w6 at L ⊢
  refine bodyPost_ret (v := .tuple #[.slice (some ⟨bb, oo, none⟩) m d, .agg (opv ⟨A0, n0, c0, A1, n1, c1, A2, n2, c2, A3, n3, c3⟩ (ende (worded ⟨1, addr, err, aad, used, 5, shard, sought, (lf : Int), bit, word, true, 1, tries, 0, stamp⟩ y)))]) ?_ rfl ?_
  · exact results_tc (fn := Tryz.f43) Tryz.results43 _ _ gR _ _ (0, 0) _ rfl (L.bk_ 0 rfl) Tryz.underlying40 rfl op_sz
  exact ⟨_, _, rfl, hU.below L.K, fun k _ h => h, L.K⟩
theorem rmk_any (ha : a < 4294967296) (hM : Much a p M) (hL : Lists lo w h (gl [])) (hU : US w B m d ys) (hm : m = lv M + tv M + 1) (hk : s.kind = 1) (hit : s.item = 0) (hlf : s.leaf = (lf : Int)) (hlv : lf < lv M) (hw : s.word < 18446744073709551616) (hfu : s.full = true) (hat : s.at_ = 0 ∨ s.at_ = 1) (hph : s.phase = 4 ∨ s.phase = 5) :
    Calls Tryz.prog 43 #[.agg #[.int .u32 (a : Int), .int .i64 p, .slice A n c, .int .i64 (ns : Int), .int .i64 wo, .int .i64 qu, .int .i64 tr], .slice B m d, .agg (opv h s)] w (RetRM (stO a M 0 [] ys s) h m (stC M ys s) B w) := by
  have dn1 : ∀ x, (s.at_ = 1 ∨ x ≠ 18446744073709551615) → dn a 0 [] (worded s x) = ende (worded s x) := fun x hx => by
    unfold dn; rw [if_pos (by unfold ends_; simp [worded, hfu]; omega)]; exact gon_one (show (worded s x).kind = 1 from hk)
  have dn0 : ∀ x, s.at_ = 0 → x = 18446744073709551615 → dn a 0 [] (worded s x) = root_ (worded s x) := fun x h0 hx => by
    unfold dn; rw [if_neg (by unfold ends_; simp [worded, hfu, h0, hx])]
  have hmk : mkd s.word (bt s) s.full = setb s.word (bt s) := by unfold mkd; rw [if_pos hfu]
  have hlt : s.leaf.toNat = lf := by omega
  rcases hat with hat | hat
  · have hcl : hcel M s = lv M + lf / 64 := by unfold hcel; rw [if_pos hat, hlt]
    have hb : bt s = lf % 64 := by unfold bt; rw [if_pos hat, hlt]
    rcases hph with hph | hph
    · unfold stO stC lk; rw [if_pos hph, if_pos hph, hfu]
      cases hbit : (gt ys (hcel M s)).testBit (bt s) with
      | false => rw [if_neg (by simp)]; exact rmk_04n ha hM hL hU hm hk hit hlf hlv hw hfu hcl hb hat hph hbit
      | true =>
        rw [if_pos rfl]
        by_cases hone : gt ys (hcel M s) = 18446744073709551615
        · rw [dn0 _ hat hone]; exact rmk_04eb ha hM hL hU hm hk hit hlf hlv hw hfu hcl hb hat hph hbit hone
        · rw [dn1 _ (.inr hone)]; exact rmk_04ea ha hM hL hU hm hk hit hlf hlv hw hfu hcl hb hat hph hbit hone
    · unfold stO stC; rw [if_neg (by omega), if_neg (by omega), hmk]
      by_cases heq : gt ys (hcel M s) = s.word
      · rw [if_pos heq]
        by_cases hone : setb s.word (bt s) = 18446744073709551615
        · rw [dn0 _ hat hone]; exact rmk_05yb ha hM hL hU hm hk hit hlf hlv hw hfu hcl hb hat hph heq hone
        · rw [dn1 _ (.inr hone)]; exact rmk_05ya ha hM hL hU hm hk hit hlf hlv hw hfu hcl hb hat hph heq hone
      · rw [if_neg heq]
        by_cases hone : setb s.word (bt s) = 18446744073709551615
        · rw [dn0 _ hat hone]; exact rmk_05nb ha hM hL hU hm hk hit hlf hlv hw hfu hcl hb hat hph heq hone
        · rw [dn1 _ (.inr hone)]; exact rmk_05na ha hM hL hU hm hk hit hlf hlv hw hfu hcl hb hat hph heq hone
  · have hcl : hcel M s = lv M + tv M := by unfold hcel; rw [if_neg (by omega)]
    have hb : bt s = lf / 64 := by unfold bt; rw [if_neg (by omega), hlt]
    rcases hph with hph | hph
    · unfold stO stC lk; rw [if_pos hph, if_pos hph, hfu]
      cases hbit : (gt ys (hcel M s)).testBit (bt s) with
      | false => rw [if_neg (by simp)]; exact rmk_14n ha hM hL hU hm hk hit hlf hlv hw hfu hcl hb hat hph hbit
      | true => rw [if_pos rfl, dn1 _ (.inl hat)]; exact rmk_14ea ha hM hL hU hm hk hit hlf hlv hw hfu hcl hb hat hph hbit
    · unfold stO stC; rw [if_neg (by omega), if_neg (by omega), hmk]
      by_cases heq : gt ys (hcel M s) = s.word
      · rw [if_pos heq, dn1 _ (.inl hat)]; exact rmk_15ya ha hM hL hU hm hk hit hlf hlv hw hfu hcl hb hat hph heq
      · rw [if_neg heq, dn1 _ (.inl hat)]; exact rmk_15na ha hM hL hU hm hk hit hlf hlv hw hfu hcl hb hat hph heq
end
end Go.Proofs.YtghecdccdmeooaaGreat

/-
  What the document's functions of layer 15 answer of a Grant that seeks. Conditions: a block that may be, a shard that there is, as many cells as there are.
-/
namespace Go.Proofs.YtghecdccdmeooaaGreat
set_option maxRecDepth 100000
set_option maxRecDepth 100000
open Go.RowKit
set_option linter.unusedVariables false
section
variable {w w1 : World} {lo a m d M ns N hd k t tt lf cl b x : Nat} {p wo qu tr : Int} {A B : Option Addr} {n c : Nat} {zs : List Int} {sn ys : List Nat} {h : Hd} {s : Sc}
set_option maxHeartbeats 2000000 in
theorem rr15_any (hM : Much a p M) (h1 : 1 ≤ ns) (h2 : ns ≤ 64) (hsh : s.shard = (hd : Int)) (hhd : hd < ns) (hso : s.sought = (k : Int)) (hk : k < ns) :
    Calls Tryz.prog 78 #[.agg #[.int .u32 (a : Int), .int .i64 p, .slice A n c, .int .i64 (ns : Int), .int .i64 wo, .int .i64 qu, .int .i64 tr], .agg (opv h s)] w (RetII (sa M ns hd k) (sb M ns hd k) w) := by
  have hm9 := hM.most
  unfold sa sb
  obtain ⟨x, hx⟩ : ∃ x, x = hd + k := ⟨_, rfl⟩
  rw [← hx]
  have hxI : (hd : Int) + (k : Int) = (x : Int) := by omega
  have fx : IntKind.i64.wrap (x : Int) = (x : Int) := IntWalk.i64_in _ (by omega)
  have TR := fun w => Lib.hid (rest_any x ns h1 h2 (by omega) w)
  have hq := Nat.mod_lt x h1
  generalize x % ns = q at TR hq ⊢
  have TG := fun w => Lib.hid (rrange_any M ns q hm9 h1 h2 hq w)
  unfold RetII at TG
  generalize ct (lv M) ns q = qa at TG ⊢
  generalize ct (lv M) ns (q + 1) = qb at TG ⊢
  clear hq hhd hk hx hm9
  rcases s with ⟨kind, addr, err, aad, used, phase, shard, sought, leaf, bit, word, full, at_, tries, item, stamp⟩
  rcases h with ⟨A0, n0, c0, A1, n1, c1, A2, n2, c2, A3, n3, c3⟩
  try dsimp only at *
  subst hsh hso
  go_enter Tryz.func78, Tryz.ntmps78
  go_upto_region 1 with (fail)
  have L := Loc.start w
  replace L := ((L).alloc #[.int .u32 (a : Int), .int .i64 p, .slice A n c, .int .i64 (ns : Int), .int .i64 wo, .int .i64 qu, .int .i64 tr] 27).alloc (opv ⟨A0, n0, c0, A1, n1, c1, A2, n2, c2, A3, n3, c3⟩ ⟨kind, addr, err, aad, used, phase, (hd : Int), (k : Int), leaf, bit, word, full, at_, tries, item, stamp⟩) 40
  try simp only [World.size_alloc] at L
  try dsimp only [nput] at L
  generalize ((w).alloc (.cells #[.int .u32 (a : Int), .int .i64 p, .slice A n c, .int .i64 (ns : Int), .int .i64 wo, .int .i64 qu, .int .i64 tr] 27)).alloc (.cells (opv ⟨A0, n0, c0, A1, n1, c1, A2, n2, c2, A3, n3, c3⟩ ⟨kind, addr, err, aad, used, phase, (hd : Int), (k : Int), leaf, bit, word, full, at_, tries, item, stamp⟩) 40) = w1 at L ⊢
  generalize w.heap.size + 1 = gO at L ⊢
  generalize w.heap.size = gH at L ⊢
  replace L := L.drew
  refine wp_region_held_drew (S := fun w' => Loc w w' [(gO, 40, opv ⟨A0, n0, c0, A1, n1, c1, A2, n2, c2, A3, n3, c3⟩ ⟨kind, addr, err, aad, used, phase, (hd : Int), (k : Int), leaf, bit, word, full, at_, tries, item, stamp⟩), (gH, 27, #[.int .u32 (a : Int), .int .i64 p, .slice A n c, .int .i64 (ns : Int), .int .i64 wo, .int .i64 qu, .int .i64 tr])] []) (by kernel_rfl) L (fun hHeld => ?_)
  generalize w1.drew = v2 at hHeld L ⊢
  refine wpAnyH_take (i := 0) (oi := ⟨some 6, _, _, _, _, _⟩) (v := .pointer (some ⟨gH, 0, none⟩)) rfl (by kernel_rfl) (by kernel_rfl) (by kernel_rfl) (fun _ _ _ h => h) (Or.inl ⟨by rfl, ?_⟩) hHeld ?_
  · (intro ww hS; go_simp; try with_reducible rfl; try omega)
  try simp only [Act.put, sA, sZ, sS]
  refine wpAnyH_take (i := 1) (oi := ⟨some 7, _, _, _, _, _⟩) (v := .agg #[.int .u32 (a : Int), .int .i64 p]) rfl (by kernel_rfl) (by kernel_rfl) (by kernel_rfl) (fun _ _ _ h => h) (Or.inl ⟨by rfl, ?_⟩) hHeld ?_
  · intro ww hS
    try dsimp only at hS
    have H_0 := (hS).at_ 1 0 rfl (v := .int .u32 (a : Int)) rfl
    have H_z := (hS).lt 1 rfl
    have H_1 := (hS).at_ 1 1 rfl (v := .int .i64 p) rfl
    have H_z := (hS).lt 1 rfl
    go_simp
    try with_reducible rfl
    try omega
  try simp only [Act.put, sA, sZ, sS]
  refine wpAnyH_take (i := 3) (oi := ⟨some 9, _, _, _, _, _⟩) (v := .pointer (some ⟨gH, 3, none⟩)) rfl (by kernel_rfl) (by kernel_rfl) (by kernel_rfl) (fun _ _ _ h => h) (Or.inl ⟨by rfl, ?_⟩) hHeld ?_
  · (intro ww hS; go_simp; try with_reducible rfl; try omega)
  try simp only [Act.put, sA, sZ, sS]
  refine wpAnyH_take (i := 4) (oi := ⟨some 10, _, _, _, _, _⟩) (v := .int .i64 (ns : Int)) rfl (by kernel_rfl) (by kernel_rfl) (by kernel_rfl) (fun _ _ _ h => h) (Or.inl ⟨by rfl, ?_⟩) hHeld ?_
  · intro ww hS
    try dsimp only at hS
    have H_3 := (hS).at_ 1 3 rfl (v := .int .i64 (ns : Int)) rfl
    have H_z := (hS).lt 1 rfl
    go_simp
    try with_reducible rfl
    try omega
  try simp only [Act.put, sA, sZ, sS]
  refine wpAnyH_take (i := 5) (oi := ⟨some 11, _, _, _, _, _⟩) (v := .pointer (some ⟨gO, 9, none⟩)) rfl (by kernel_rfl) (by kernel_rfl) (by kernel_rfl) (fun _ _ _ h => h) (Or.inl ⟨by rfl, ?_⟩) hHeld ?_
  · (intro ww hS; go_simp; try with_reducible rfl; try omega)
  try simp only [Act.put, sA, sZ, sS]
  refine wpAnyH_take (i := 6) (oi := ⟨some 12, _, _, _, _, _⟩) (v := .int .i64 (hd : Int)) rfl (by kernel_rfl) (by kernel_rfl) (by kernel_rfl) (fun _ _ _ h => h) (Or.inl ⟨by rfl, ?_⟩) hHeld ?_
  · intro ww hS
    try dsimp only at hS
    have O_9 := (hS).at_ 0 9 rfl (v := .int .i64 (hd : Int)) rfl
    have O_z := (hS).lt 0 rfl
    go_simp
    try with_reducible rfl
    try omega
  try simp only [Act.put, sA, sZ, sS]
  refine wpAnyH_take (i := 7) (oi := ⟨some 13, _, _, _, _, _⟩) (v := .pointer (some ⟨gO, 10, none⟩)) rfl (by kernel_rfl) (by kernel_rfl) (by kernel_rfl) (fun _ _ _ h => h) (Or.inl ⟨by rfl, ?_⟩) hHeld ?_
  · (intro ww hS; go_simp; try with_reducible rfl; try omega)
  try simp only [Act.put, sA, sZ, sS]
  refine wpAnyH_take (i := 8) (oi := ⟨some 14, _, _, _, _, _⟩) (v := .int .i64 (k : Int)) rfl (by kernel_rfl) (by kernel_rfl) (by kernel_rfl) (fun _ _ _ h => h) (Or.inl ⟨by rfl, ?_⟩) hHeld ?_
  · intro ww hS
    try dsimp only at hS
    have O_10 := (hS).at_ 0 10 rfl (v := .int .i64 (k : Int)) rfl
    have O_z := (hS).lt 0 rfl
    go_simp
    try with_reducible rfl
    try omega
  try simp only [Act.put, sA, sZ, sS]
  refine wpAnyH_take (i := 9) (oi := ⟨some 15, _, _, _, _, _⟩) (v := .int .i64 (x : Int)) rfl (by kernel_rfl) (by kernel_rfl) (by kernel_rfl) (fun _ _ _ h => h) (Or.inl ⟨by rfl, ?_⟩) hHeld ?_
  · (intro ww hS; go_simp; try with_reducible rfl; try omega)
  try simp only [Act.put, sA, sZ, sS]
  refine wpAnyH_take (i := 10) (oi := ⟨some 16, _, _, _, _, _⟩) (v := .pointer (some ⟨gH, 3, none⟩)) rfl (by kernel_rfl) (by kernel_rfl) (by kernel_rfl) (fun _ _ _ h => h) (Or.inl ⟨by rfl, ?_⟩) hHeld ?_
  · (intro ww hS; go_simp; try with_reducible rfl; try omega)
  try simp only [Act.put, sA, sZ, sS]
  refine wpAnyH_take (i := 11) (oi := ⟨some 17, _, _, _, _, _⟩) (v := .int .i64 (ns : Int)) rfl (by kernel_rfl) (by kernel_rfl) (by kernel_rfl) (fun _ _ _ h => h) (Or.inl ⟨by rfl, ?_⟩) hHeld ?_
  · intro ww hS
    try dsimp only at hS
    have H_3 := (hS).at_ 1 3 rfl (v := .int .i64 (ns : Int)) rfl
    have H_z := (hS).lt 1 rfl
    go_simp
    try with_reducible rfl
    try omega
  try simp only [Act.put, sA, sZ, sS]
  refine wpAnyH_ready (rs := [2]) (by kernel_rfl) (by simp) ?_
  refine AllReadyH.cons (o := ⟨some 8, _, _, _, _, _⟩) rfl (fun K0 hK => ?_) AllReadyH.nil
  go_simp
  refine (rmany_yes hM).mono ?_
  rintro e w3 ⟨rfl, K'⟩
  replace L := L.over K'
  refine hK.out _ _ L (fun hHeld' => ?_)
  clear hHeld hK K0
  have hHeld := hHeld'
  clear hHeld'
  clear K'
  try simp only [Act.put, sA, sZ, sS]
  refine wpAnyH_ready (rs := [12]) (by kernel_rfl) (by simp) ?_
  refine AllReadyH.cons (o := ⟨some 18, _, _, _, _, _⟩) rfl (fun K0 hK => ?_) AllReadyH.nil
  go_simp
  refine ((TR _).out).mono ?_
  rintro e w' ⟨rfl, rfl⟩
  refine hK.out _ _ L (fun hHeld' => ?_)
  clear hHeld hK K0
  have hHeld := hHeld'
  clear hHeld'
  try simp only [Act.put, sA, sZ, sS]
  refine wpAnyH_ready (rs := [13]) (by kernel_rfl) (by simp) ?_
  refine AllReadyH.cons (o := ⟨some 19, _, _, _, _, _⟩) rfl (fun K0 hK => ?_) AllReadyH.nil
  go_simp
  refine ((TG _).out).mono ?_
  rintro e w4 ⟨rfl, K'⟩
  replace L := L.over K'
  refine hK.out _ _ L (fun hHeld' => ?_)
  clear hHeld hK K0
  have hHeld := hHeld'
  clear hHeld'
  clear K'
  try simp only [Act.put, sA, sZ, sS]
  refine wpAnyH_take (i := 14) (oi := ⟨some 20, _, _, _, _, _⟩) (v := .int .i64 (qa : Int)) rfl (by kernel_rfl) (by kernel_rfl) (by kernel_rfl) (fun _ _ _ h => h) (Or.inl ⟨by rfl, ?_⟩) hHeld ?_
  · (intro ww hS; go_simp; try with_reducible rfl; try omega)
  try simp only [Act.put, sA, sZ, sS]
  refine wpAnyH_take (i := 15) (oi := ⟨some 21, _, _, _, _, _⟩) (v := .int .i64 (qb : Int)) rfl (by kernel_rfl) (by kernel_rfl) (by kernel_rfl) (fun _ _ _ h => h) (Or.inl ⟨by rfl, ?_⟩) hHeld ?_
  · (intro ww hS; go_simp; try with_reducible rfl; try omega)
  try simp only [Act.put, sA, sZ, sS]
  refine wpAnyH_take (i := 16) (oi := ⟨some 4, _, _, _, _, _⟩) (v := .int .i64 (qa : Int)) rfl (by kernel_rfl) (by kernel_rfl) (by kernel_rfl) (fun _ _ _ h => h) (Or.inl ⟨by rfl, ?_⟩) hHeld ?_
  · (intro ww hS; go_simp; try with_reducible rfl; try omega)
  try simp only [Act.put, sA, sZ, sS]
  refine wpAnyH_take (i := 17) (oi := ⟨some 5, _, _, _, _, _⟩) (v := .int .i64 (qb : Int)) rfl (by kernel_rfl) (by kernel_rfl) (by kernel_rfl) (fun _ _ _ h => h) (Or.inl ⟨by rfl, ?_⟩) hHeld ?_
  · (intro ww hS; go_simp; try with_reducible rfl; try omega)
  try simp only [Act.put, sA, sZ, sS]
  refine wpAnyH_done (by kernel_rfl) ?_ _
  clear hHeld
  go_wp2
  go_ret2
  exact ⟨rfl, L.K⟩
set_option maxHeartbeats 2000000 in
theorem ro15_any (hM : Much a p M) (h1 : 1 ≤ ns) (h2 : ns ≤ 64) (hsh : s.shard = (hd : Int)) (hhd : hd < ns) (hso : s.sought = (k : Int)) (hk : k < ns) :
    Calls Tryz.prog 107 #[.agg #[.int .u32 (a : Int), .int .i64 p, .slice A n c, .int .i64 (ns : Int), .int .i64 wo, .int .i64 qu, .int .i64 tr], .agg (opv h s), .int .i64 (t : Int)] w (RetBo (inT (sa M ns hd k) (sb M ns hd k) t) w) := by
  have TG := fun w h => Lib.hid (rr15_any (w := w) (h := h) (wo := wo) (qu := qu) (tr := tr) (A := A) (n := n) (c := c) hM h1 h2 hsh hhd hso hk)
  unfold RetII at TG
  obtain ⟨hab, hbl⟩ := sab (M := M) (hd := hd) (k := k) h1
  have hl3 := lv_le hM.most
  generalize sa M ns hd k = qa at TG hab ⊢
  generalize sb M ns hd k = qb at TG hab hbl ⊢
  clear hM h1 h2 hhd hk
  rcases s with ⟨kind, addr, err, aad, used, phase, shard, sought, leaf, bit, word, full, at_, tries, item, stamp⟩
  rcases h with ⟨A0, n0, c0, A1, n1, c1, A2, n2, c2, A3, n3, c3⟩
  try dsimp only at *
  subst hsh hso
  go_enter Tryz.func107, Tryz.ntmps107
  go_upto_region 1 with (fail)
  have L := Loc.start w
  replace L := ((L).alloc #[.int .u32 (a : Int), .int .i64 p, .slice A n c, .int .i64 (ns : Int), .int .i64 wo, .int .i64 qu, .int .i64 tr] 27).alloc (opv ⟨A0, n0, c0, A1, n1, c1, A2, n2, c2, A3, n3, c3⟩ ⟨kind, addr, err, aad, used, phase, (hd : Int), (k : Int), leaf, bit, word, full, at_, tries, item, stamp⟩) 40
  try simp only [World.size_alloc] at L
  try dsimp only [nput] at L
  generalize ((w).alloc (.cells #[.int .u32 (a : Int), .int .i64 p, .slice A n c, .int .i64 (ns : Int), .int .i64 wo, .int .i64 qu, .int .i64 tr] 27)).alloc (.cells (opv ⟨A0, n0, c0, A1, n1, c1, A2, n2, c2, A3, n3, c3⟩ ⟨kind, addr, err, aad, used, phase, (hd : Int), (k : Int), leaf, bit, word, full, at_, tries, item, stamp⟩) 40) = w1 at L ⊢
  generalize w.heap.size + 1 = gO at L ⊢
  generalize w.heap.size = gH at L ⊢
  go_wp2_with (first | (refine wpList_load_row rfl 27 (.tmp 3) rfl gH rfl _ _ (0, 0) _ (L.bk_ 1 rfl) Tryz.underlying27 rfl cf_sz ?_) | (refine wpList_load_row rfl 40 (.tmp 4) rfl gO rfl _ _ (0, 0) _ (L.bk_ 0 rfl) Tryz.underlying40 rfl op_sz ?_))
  refine ((TG _ _).out).mono ?_
  rintro e w2 ⟨rfl, K'⟩
  replace L := L.over K'
  go_wp2
  go_loopw [9] (fun iv wr => ∃ j : Nat, qa ≤ j ∧ j ≤ qb ∧ iv = .int .i64 (j : Nat) ∧ (∀ i, qa ≤ i → i < j → i / 64 ≠ t) ∧ Loc w wr [(gO, 40, opv ⟨A0, n0, c0, A1, n1, c1, A2, n2, c2, A3, n3, c3⟩ ⟨kind, addr, err, aad, used, phase, (hd : Int), (k : Int), leaf, bit, word, full, at_, tries, item, stamp⟩), (gH, 27, #[.int .u32 (a : Int), .int .i64 p, .slice A n c, .int .i64 (ns : Int), .int .i64 wo, .int .i64 qu, .int .i64 tr])] []) (fun iv _ => qb - (intOf iv).toNat)
  case atStart => exact ⟨qa, Nat.le_refl _, hab, rfl, fun i h1 h2 => absurd h2 (by omega), L⟩
  case round =>
    clear L
    obtain ⟨j, hj1, hj2, rfl, hno, L⟩ := hrel
    by_cases hlt : j < qb
    · have hlt2 : (j : Int) < (qb : Int) := by omega
      obtain ⟨q, hq⟩ : ∃ q, q = j / 64 := ⟨_, rfl⟩
      have d1 : (j : Int) / 64 = (q : Int) := by omega
      have d2 : (j : Int).tdiv 64 = (q : Int) := by rw [Int.tdiv_eq_ediv_of_nonneg (by omega)]; omega
      skip
      by_cases e : q = t
      · have e2 : ((q : Int) == (t : Int)) = true := by simp [e]
        have hT := inT_in hj1 hlt (hq.symm.trans e)
        replace hT := Lib.hid hT
        clear hq e hno
        go_wp2
        go_ret
        exact ⟨by rw [hT.out]; rfl, L.K⟩
      · have e2 : ((q : Int) == (t : Int)) = false := by simp; omega
        have hno2 : ∀ i, qa ≤ i → i < j + 1 → i / 64 ≠ t := fun i g1 g2 => by
          rcases Nat.lt_or_ge i j with h | h
          · exact hno i g1 h
          · obtain rfl : i = j := by omega
            omega
        replace hno2 := Lib.hid hno2
        clear hq e hno
        go_wp2
        go_roundw
        case rel => exact ⟨j + 1, by omega, by omega, by go_num, hno2.out, L⟩
        case measure => simp [intOf]; omega
    · have hjq : j = qb := by omega
      have hge : ¬ ((j : Int) < (qb : Int)) := by omega
      have hT : inT qa qb t = false := inT_not (by rw [← hjq]; exact hno)
      replace hT := Lib.hid hT
      clear hno
      go_wp2
      go_ret
      exact ⟨by rw [hT.out]; rfl, L.K⟩
set_option maxHeartbeats 2000000 in
theorem rn15_any (hM : Much a p M) (h1 : 1 ≤ ns) (h2 : ns ≤ 64) (hsh : s.shard = (hd : Int)) (hhd : hd < ns) (hso : s.sought = (k : Int)) (hk : k < ns) (hat : s.at_ = (t : Int)) (ht : t ≤ 64) (hph : s.phase = 1) (hw : s.word < 18446744073709551616) (hL : Lists lo w h (gl [])) :
    Calls Tryz.prog 77 #[.agg #[.int .u32 (a : Int), .int .i64 p, .slice A n c, .int .i64 (ns : Int), .int .i64 wo, .int .i64 qu, .int .i64 tr], .agg (opv h s), .int .i64 (t : Int)] w (RetRO (onS (ns : Int) (sa M ns hd k) (sb M ns hd k) s) (gl []) h w) := by
  have TO := fun w h u => Lib.hid (ro15_any (w := w) (h := h) (t := u) (wo := wo) (qu := qu) (tr := tr) (A := A) (n := n) (c := c) hM h1 h2 hsh hhd hso hk)
  have z3 := Lib.hid (gl_len hL).2.2.2
  have hZ := fun lo2 w2 => gl_emp hL lo2 w2
  have hZ2 := fun lo2 w2 => gl_none hL lo2 w2
  have hm9 := hM.most
  have ht3 := tv_le hm9
  have TT := fun w => Lib.hid (rtops_any M hm9 w)
  obtain ⟨hab, hbl⟩ := sab (M := M) (hd := hd) (k := k) h1
  generalize sa M ns hd k = qa at TO hab ⊢
  generalize sb M ns hd k = qb at TO hab hbl ⊢
  have hin : ∀ u, inT qa qb u = true → u < tv M := fun u hu => inT_top hbl hu
  obtain ⟨T, hT⟩ : ∃ x, x = tv M := ⟨_, rfl⟩
  rw [← hT] at TT hin ht3
  replace hin := Lib.hid hin
  clear hT hhd hm9 hab hbl hL
  rcases s with ⟨kind, addr, err, aad, used, phase, shard, sought, leaf, bit, word, full, at_, tries, item, stamp⟩
  rcases h with ⟨A0, n0, c0, A1, n1, c1, A2, n2, c2, A3, n3, c3⟩
  try dsimp only at *
  subst hsh hso hat hph
  go_enter Tryz.func77, Tryz.ntmps77
  go_upto_region 1 with (fail)
  have L := Loc.start w
  replace L := (((L).alloc #[.int .u32 (a : Int), .int .i64 p, .slice A n c, .int .i64 (ns : Int), .int .i64 wo, .int .i64 qu, .int .i64 tr] 27).alloc (opv ⟨A0, n0, c0, A1, n1, c1, A2, n2, c2, A3, n3, c3⟩ ⟨kind, addr, err, aad, used, 1, (hd : Int), (k : Int), leaf, bit, word, full, (t : Int), tries, item, stamp⟩) 40).alloc #[.int .i64 0, .int .u32 0, .slice none 0 0, .int .i64 0, .int .u32 0, .bool false, .slice none 0 0, .slice none 0 0, .int .i64 0, .int .i64 0, .int .i64 0, .int .i64 0, .int .i64 0, .int .u64 0, .bool false, .slice none 0 0, .int .i64 0, .int .i64 0, .int .i64 0, .int .i64 0] 40
  try simp only [World.size_alloc] at L
  replace L := L.is 0 (opv hd0 sc0) rfl
  try dsimp only [nput] at L
  generalize (((w).alloc (.cells #[.int .u32 (a : Int), .int .i64 p, .slice A n c, .int .i64 (ns : Int), .int .i64 wo, .int .i64 qu, .int .i64 tr] 27)).alloc (.cells (opv ⟨A0, n0, c0, A1, n1, c1, A2, n2, c2, A3, n3, c3⟩ ⟨kind, addr, err, aad, used, 1, (hd : Int), (k : Int), leaf, bit, word, full, (t : Int), tries, item, stamp⟩) 40)).alloc (.cells #[.int .i64 0, .int .u32 0, .slice none 0 0, .int .i64 0, .int .u32 0, .bool false, .slice none 0 0, .slice none 0 0, .int .i64 0, .int .i64 0, .int .i64 0, .int .i64 0, .int .i64 0, .int .u64 0, .bool false, .slice none 0 0, .int .i64 0, .int .i64 0, .int .i64 0, .int .i64 0] 40) = w1 at L ⊢
  generalize w.heap.size + 1 + 1 = gR at L ⊢
  generalize w.heap.size + 1 = gO at L ⊢
  generalize w.heap.size = gH at L ⊢
  go_wp2
  go_loopw [7] (fun iv wr => ∃ u : Nat, t ≤ u ∧ u ≤ 64 ∧ iv = .int .i64 (u : Nat) ∧ (∀ v, t ≤ v → v < u → inT qa qb v = true → word.testBit v = true) ∧ Loc w wr [(gR, 40, opv hd0 sc0), (gO, 40, opv ⟨A0, n0, c0, A1, n1, c1, A2, n2, c2, A3, n3, c3⟩ ⟨kind, addr, err, aad, used, 1, (hd : Int), (k : Int), leaf, bit, word, full, (t : Int), tries, item, stamp⟩), (gH, 27, #[.int .u32 (a : Int), .int .i64 p, .slice A n c, .int .i64 (ns : Int), .int .i64 wo, .int .i64 qu, .int .i64 tr])] []) (fun iv _ => 64 - (intOf iv).toNat)
  case atStart => exact ⟨t, Nat.le_refl _, ht, rfl, fun v g1 g2 => absurd g2 (by omega), L⟩
  case round =>
    clear L
    obtain ⟨u, hu1, hu2, rfl, hno, L⟩ := hrel
    by_cases hlt : u < T
    · have hlt2 : (u : Int) < (T : Int) := by omega
      have TO1 := fun w h => TO w h u
      have TH := fun w => Lib.hid (rhas_any word u hw (by omega) w)
      cases hT : inT qa qb u with
      | false =>
        rw [hT] at TO1
        have hno2 : ∀ v, t ≤ v → v < u + 1 → inT qa qb v = true → word.testBit v = true := fun v g1 g2 g3 => by
          rcases Nat.lt_or_ge v u with h | h
          · exact hno v g1 h g3
          · obtain rfl : v = u := by omega
            rw [hT] at g3; cases g3
        replace hno2 := Lib.hid hno2
        clear hno hT
        have H_0 := L.at_ 2 0 rfl (v := .int .u32 (a : Int)) rfl
        have H_1 := L.at_ 2 1 rfl (v := .int .i64 p) rfl
        have H_z := L.lt 2 rfl
        go_wp2_with fail
        refine (rmany_yes hM).mono ?_
        rintro e w2 ⟨rfl, K'⟩
        clear H_0 H_1 H_z
        replace L := L.over K'
        go_wp2_with fail
        refine ((TT _).out).mono ?_
        rintro e w' ⟨rfl, rfl⟩
        go_wp2_with (first | (refine wpList_load_row rfl 27 (.tmp 3) rfl gH rfl _ _ (0, 0) _ (L.bk_ 2 rfl) Tryz.underlying27 rfl cf_sz ?_) | (refine wpList_load_row rfl 40 (.tmp 4) rfl gO rfl _ _ (0, 0) _ (L.bk_ 1 rfl) Tryz.underlying40 rfl op_sz ?_))
        refine ((TO1 _ _).out).mono ?_
        rintro e w3 ⟨rfl, K'⟩
        replace L := L.over K'
        go_wp2
        go_roundw
        case rel => exact ⟨u + 1, by omega, by omega, by go_num, hno2.out, L⟩
        case measure => simp [intOf]; omega
      | true =>
        rw [hT] at TO1
        cases hB : word.testBit u with
        | false =>
          rw [hB] at TH
          have hon : onS (ns : Int) qa qb ⟨kind, addr, err, aad, used, 1, (hd : Int), (k : Int), leaf, bit, word, full, (t : Int), tries, item, stamp⟩ = ⟨kind, addr, err, aad, used, 1, (hd : Int), (k : Int), leaf, bit, word, full, ((u : Int) + 1), tries, item, stamp⟩ := by
            unfold onS; dsimp only; rw [Int.toNat_natCast, nxt_is hT hu1 hB hno]; unfold atS; simp
          replace hon := Lib.hid hon
          clear hno hT hB
          have H_0 := L.at_ 2 0 rfl (v := .int .u32 (a : Int)) rfl
          have H_1 := L.at_ 2 1 rfl (v := .int .i64 p) rfl
          have H_z := L.lt 2 rfl
          go_wp2_with fail
          refine (rmany_yes hM).mono ?_
          rintro e w2 ⟨rfl, K'⟩
          clear H_0 H_1 H_z
          replace L := L.over K'
          go_wp2_with fail
          refine ((TT _).out).mono ?_
          rintro e w' ⟨rfl, rfl⟩
          go_wp2_with (first | (refine wpList_load_row rfl 27 (.tmp 3) rfl gH rfl _ _ (0, 0) _ (L.bk_ 2 rfl) Tryz.underlying27 rfl cf_sz ?_) | (refine wpList_load_row rfl 40 (.tmp 4) rfl gO rfl _ _ (0, 0) _ (L.bk_ 1 rfl) Tryz.underlying40 rfl op_sz ?_))
          refine ((TO1 _ _).out).mono ?_
          rintro e w3 ⟨rfl, K'⟩
          replace L := L.over K'
          have O_13 := L.at_ 1 13 rfl (v := .int .u64 ((word : Nat) : Int)) rfl
          have O_z := L.lt 1 rfl
          go_wp2_with fail
          refine ((TH _).out).mono ?_
          rintro e w' ⟨rfl, rfl⟩
          clear O_13 O_z
          have O_16 := L.at_ 1 16 rfl (v := .int .i64 (t : Int)) rfl
          have O_z := L.lt 1 rfl
          have O_f16 := L.fz 1 16 rfl
          go_upto_region 6 with fail
          clear O_16 O_z O_f16
          replace L := ((L.set 1 16 rfl (.int .i64 (((u : Int) + 1)))).is 1 (opv ⟨A0, n0, c0, A1, n1, c1, A2, n2, c2, A3, n3, c3⟩ ⟨kind, addr, err, aad, used, 1, (hd : Int), (k : Int), leaf, bit, word, full, ((u : Int) + 1), tries, item, stamp⟩) rfl)
          try dsimp only [nput] at L
          generalize (w3).setCell ⟨gO, 16, none⟩ (.int .i64 (((u : Int) + 1))) = w4 at L ⊢
          go_wp2_with (first | (refine wpList_load_row rfl 40 (.tmp 4) rfl gO rfl _ _ (0, 0) _ (L.bk_ 1 rfl) Tryz.underlying40 rfl op_sz ?_) | (refine wpList_store_row rfl 40 (.tmp 6) (.tmp 31) rfl gR _ rfl rfl _ _ (L.bk_ 0 rfl) op_sz rfl (opv_one _ _) ?_))
          replace L := (L.row 0 rfl (opv ⟨A0, n0, c0, A1, n1, c1, A2, n2, c2, A3, n3, c3⟩ ⟨kind, addr, err, aad, used, 1, (hd : Int), (k : Int), leaf, bit, word, full, ((u : Int) + 1), tries, item, stamp⟩))
          try dsimp only [nput] at L
          generalize (w4).setRow gR (opv ⟨A0, n0, c0, A1, n1, c1, A2, n2, c2, A3, n3, c3⟩ ⟨kind, addr, err, aad, used, 1, (hd : Int), (k : Int), leaf, bit, word, full, ((u : Int) + 1), tries, item, stamp⟩) = w5 at L ⊢
          refine bodyPost_ret (v := .agg (opv ⟨A0, n0, c0, A1, n1, c1, A2, n2, c2, A3, n3, c3⟩ ⟨kind, addr, err, aad, used, 1, (hd : Int), (k : Int), leaf, bit, word, full, ((u : Int) + 1), tries, item, stamp⟩)) ?_ rfl ?_
          · exact results_cell_row (fn := Tryz.f77) Tryz.results77 _ _ gR _ _ (0, 0) _ rfl (L.bk_ 0 rfl) Tryz.underlying40 rfl op_sz
          rw [hon.out]; exact ⟨_, rfl, hZ _ _, sa_zero z3.out, L.K⟩
        | true =>
          rw [hB] at TH
          have hno2 : ∀ v, t ≤ v → v < u + 1 → inT qa qb v = true → word.testBit v = true := fun v g1 g2 g3 => by
            rcases Nat.lt_or_ge v u with h | h
            · exact hno v g1 h g3
            · obtain rfl : v = u := by omega
              exact hB
          replace hno2 := Lib.hid hno2
          clear hno hT hB
          have H_0 := L.at_ 2 0 rfl (v := .int .u32 (a : Int)) rfl
          have H_1 := L.at_ 2 1 rfl (v := .int .i64 p) rfl
          have H_z := L.lt 2 rfl
          go_wp2_with fail
          refine (rmany_yes hM).mono ?_
          rintro e w2 ⟨rfl, K'⟩
          clear H_0 H_1 H_z
          replace L := L.over K'
          go_wp2_with fail
          refine ((TT _).out).mono ?_
          rintro e w' ⟨rfl, rfl⟩
          go_wp2_with (first | (refine wpList_load_row rfl 27 (.tmp 3) rfl gH rfl _ _ (0, 0) _ (L.bk_ 2 rfl) Tryz.underlying27 rfl cf_sz ?_) | (refine wpList_load_row rfl 40 (.tmp 4) rfl gO rfl _ _ (0, 0) _ (L.bk_ 1 rfl) Tryz.underlying40 rfl op_sz ?_))
          refine ((TO1 _ _).out).mono ?_
          rintro e w3 ⟨rfl, K'⟩
          replace L := L.over K'
          have O_13 := L.at_ 1 13 rfl (v := .int .u64 ((word : Nat) : Int)) rfl
          have O_z := L.lt 1 rfl
          go_wp2_with fail
          refine ((TH _).out).mono ?_
          rintro e w' ⟨rfl, rfl⟩
          clear O_13 O_z
          go_wp2
          go_roundw
          case rel => exact ⟨u + 1, by omega, by omega, by go_num, hno2.out, L⟩
          case measure => simp [intOf]; omega
    · have hge : ¬ ((u : Int) < (T : Int)) := by omega
      have hx := nxt_no (t := t) (x := word) (qa := qa) (qb := qb) (fun v g1 g2 => hno v g1 (by have := hin.out v g2; omega) g2)
      clear hno
      by_cases hks : k + 1 < ns
      · have hon : onS (ns : Int) qa qb ⟨kind, addr, err, aad, used, 1, (hd : Int), (k : Int), leaf, bit, word, full, (t : Int), tries, item, stamp⟩ = ⟨kind, addr, err, aad, used, 1, (hd : Int), ((k : Int) + 1), leaf, bit, 0, full, 0, tries, item, stamp⟩ := by
          unfold onS; dsimp only; rw [Int.toNat_natCast, hx]; unfold elsS; dsimp only; rw [if_pos (by omega)]; rfl
        replace hon := Lib.hid hon
        clear hx
        have f1 : IntKind.i64.wrap ((k : Int) + 1) = (k : Int) + 1 := IntWalk.i64_in _ (by omega)
        have f2 : decide ((ns : Int) ≤ (k : Int) + 1) = false := by simp only [decide_eq_false_iff_not]; omega
        have H_0 := L.at_ 2 0 rfl (v := .int .u32 (a : Int)) rfl
        have H_1 := L.at_ 2 1 rfl (v := .int .i64 p) rfl
        have H_z := L.lt 2 rfl
        go_wp2_with fail
        refine (rmany_yes hM).mono ?_
        rintro e w2 ⟨rfl, K'⟩
        clear H_0 H_1 H_z
        replace L := L.over K'
        go_wp2_with fail
        refine ((TT _).out).mono ?_
        rintro e w' ⟨rfl, rfl⟩
        have O_10 := L.at_ 1 10 rfl (v := .int .i64 (k : Int)) rfl
        have O_z := L.lt 1 rfl
        have O_f10 := L.fz 1 10 rfl
        go_upto_region 8 with fail
        clear O_10 O_z O_f10
        replace L := ((L.set 1 10 rfl (.int .i64 (((k : Int) + 1)))).is 1 (opv ⟨A0, n0, c0, A1, n1, c1, A2, n2, c2, A3, n3, c3⟩ ⟨kind, addr, err, aad, used, 1, (hd : Int), ((k : Int) + 1), leaf, bit, word, full, (t : Int), tries, item, stamp⟩) rfl)
        try dsimp only [nput] at L
        generalize (w2).setCell ⟨gO, 10, none⟩ (.int .i64 (((k : Int) + 1))) = w3 at L ⊢
        have O_13 := L.at_ 1 13 rfl (v := .int .u64 ((word : Nat) : Int)) rfl
        have O_z := L.lt 1 rfl
        have O_f13 := L.fz 1 13 rfl
        go_upto_region 9 with fail
        clear O_13 O_z O_f13
        replace L := ((L.set 1 13 rfl (.int .u64 0)).is 1 (opv ⟨A0, n0, c0, A1, n1, c1, A2, n2, c2, A3, n3, c3⟩ ⟨kind, addr, err, aad, used, 1, (hd : Int), ((k : Int) + 1), leaf, bit, 0, full, (t : Int), tries, item, stamp⟩) rfl)
        try dsimp only [nput] at L
        generalize (w3).setCell ⟨gO, 13, none⟩ (.int .u64 0) = w4 at L ⊢
        have O_16 := L.at_ 1 16 rfl (v := .int .i64 (t : Int)) rfl
        have O_z := L.lt 1 rfl
        have O_f16 := L.fz 1 16 rfl
        go_upto_region 10 with fail
        clear O_16 O_z O_f16
        replace L := ((L.set 1 16 rfl (.int .i64 0)).is 1 (opv ⟨A0, n0, c0, A1, n1, c1, A2, n2, c2, A3, n3, c3⟩ ⟨kind, addr, err, aad, used, 1, (hd : Int), ((k : Int) + 1), leaf, bit, 0, full, 0, tries, item, stamp⟩) rfl)
        try dsimp only [nput] at L
        generalize (w4).setCell ⟨gO, 16, none⟩ (.int .i64 0) = w5 at L ⊢
        have O_10 := L.at_ 1 10 rfl (v := .int .i64 (((k : Int) + 1))) rfl
        have H_3 := L.at_ 2 3 rfl (v := .int .i64 (ns : Int)) rfl
        have O_z := L.lt 1 rfl
        have H_z := L.lt 2 rfl
        go_wp2_with (first | (refine wpList_load_row rfl 40 (.tmp 4) rfl gO rfl _ _ (0, 0) _ (L.bk_ 1 rfl) Tryz.underlying40 rfl op_sz ?_) | (refine wpList_store_row rfl 40 (.tmp 6) (.tmp 45) rfl gR _ rfl rfl _ _ (L.bk_ 0 rfl) op_sz rfl (opv_one _ _) ?_))
        clear O_10 H_3 O_z H_z
        replace L := (L.row 0 rfl (opv ⟨A0, n0, c0, A1, n1, c1, A2, n2, c2, A3, n3, c3⟩ ⟨kind, addr, err, aad, used, 1, (hd : Int), ((k : Int) + 1), leaf, bit, 0, full, 0, tries, item, stamp⟩))
        try dsimp only [nput] at L
        generalize (w5).setRow gR (opv ⟨A0, n0, c0, A1, n1, c1, A2, n2, c2, A3, n3, c3⟩ ⟨kind, addr, err, aad, used, 1, (hd : Int), ((k : Int) + 1), leaf, bit, 0, full, 0, tries, item, stamp⟩) = w6 at L ⊢
        refine bodyPost_ret (v := .agg (opv ⟨A0, n0, c0, A1, n1, c1, A2, n2, c2, A3, n3, c3⟩ ⟨kind, addr, err, aad, used, 1, (hd : Int), ((k : Int) + 1), leaf, bit, 0, full, 0, tries, item, stamp⟩)) ?_ rfl ?_
        · exact results_cell_row (fn := Tryz.f77) Tryz.results77 _ _ gR _ _ (0, 0) _ rfl (L.bk_ 0 rfl) Tryz.underlying40 rfl op_sz
        rw [hon.out]; exact ⟨_, rfl, hZ _ _, sa_zero z3.out, L.K⟩
      · have hon : onS (ns : Int) qa qb ⟨kind, addr, err, aad, used, 1, (hd : Int), (k : Int), leaf, bit, word, full, (t : Int), tries, item, stamp⟩ = ⟨kind, addr, err, aad, used, 6, (hd : Int), ((k : Int) + 1), leaf, bit, 0, full, 0, tries, item, stamp⟩ := by
          unfold onS; dsimp only; rw [Int.toNat_natCast, hx]; unfold elsS; dsimp only; rw [if_neg (by omega)]; rfl
        replace hon := Lib.hid hon
        clear hx
        have f1 : IntKind.i64.wrap ((k : Int) + 1) = (k : Int) + 1 := IntWalk.i64_in _ (by omega)
        have f2 : decide ((ns : Int) ≤ (k : Int) + 1) = true := by simp; omega
        have H_0 := L.at_ 2 0 rfl (v := .int .u32 (a : Int)) rfl
        have H_1 := L.at_ 2 1 rfl (v := .int .i64 p) rfl
        have H_z := L.lt 2 rfl
        go_wp2_with fail
        refine (rmany_yes hM).mono ?_
        rintro e w2 ⟨rfl, K'⟩
        clear H_0 H_1 H_z
        replace L := L.over K'
        go_wp2_with fail
        refine ((TT _).out).mono ?_
        rintro e w' ⟨rfl, rfl⟩
        have O_10 := L.at_ 1 10 rfl (v := .int .i64 (k : Int)) rfl
        have O_z := L.lt 1 rfl
        have O_f10 := L.fz 1 10 rfl
        go_upto_region 8 with fail
        clear O_10 O_z O_f10
        replace L := ((L.set 1 10 rfl (.int .i64 (((k : Int) + 1)))).is 1 (opv ⟨A0, n0, c0, A1, n1, c1, A2, n2, c2, A3, n3, c3⟩ ⟨kind, addr, err, aad, used, 1, (hd : Int), ((k : Int) + 1), leaf, bit, word, full, (t : Int), tries, item, stamp⟩) rfl)
        try dsimp only [nput] at L
        generalize (w2).setCell ⟨gO, 10, none⟩ (.int .i64 (((k : Int) + 1))) = w3 at L ⊢
        have O_13 := L.at_ 1 13 rfl (v := .int .u64 ((word : Nat) : Int)) rfl
        have O_z := L.lt 1 rfl
        have O_f13 := L.fz 1 13 rfl
        go_upto_region 9 with fail
        clear O_13 O_z O_f13
        replace L := ((L.set 1 13 rfl (.int .u64 0)).is 1 (opv ⟨A0, n0, c0, A1, n1, c1, A2, n2, c2, A3, n3, c3⟩ ⟨kind, addr, err, aad, used, 1, (hd : Int), ((k : Int) + 1), leaf, bit, 0, full, (t : Int), tries, item, stamp⟩) rfl)
        try dsimp only [nput] at L
        generalize (w3).setCell ⟨gO, 13, none⟩ (.int .u64 0) = w4 at L ⊢
        have O_16 := L.at_ 1 16 rfl (v := .int .i64 (t : Int)) rfl
        have O_z := L.lt 1 rfl
        have O_f16 := L.fz 1 16 rfl
        go_upto_region 10 with fail
        clear O_16 O_z O_f16
        replace L := ((L.set 1 16 rfl (.int .i64 0)).is 1 (opv ⟨A0, n0, c0, A1, n1, c1, A2, n2, c2, A3, n3, c3⟩ ⟨kind, addr, err, aad, used, 1, (hd : Int), ((k : Int) + 1), leaf, bit, 0, full, 0, tries, item, stamp⟩) rfl)
        try dsimp only [nput] at L
        generalize (w4).setCell ⟨gO, 16, none⟩ (.int .i64 0) = w5 at L ⊢
        have O_10 := L.at_ 1 10 rfl (v := .int .i64 (((k : Int) + 1))) rfl
        have H_3 := L.at_ 2 3 rfl (v := .int .i64 (ns : Int)) rfl
        have O_8 := L.at_ 1 8 rfl (v := .int .i64 1) rfl
        have O_z := L.lt 1 rfl
        have H_z := L.lt 2 rfl
        have O_f8 := L.fz 1 8 rfl
        have ne_O_H := L.ne_ 1 2 rfl rfl (by decide)
        go_upto_region 12 with fail
        clear O_10 H_3 O_8 O_z H_z O_f8 ne_O_H
        replace L := ((L.set 1 8 rfl (.int .i64 6)).is 1 (opv ⟨A0, n0, c0, A1, n1, c1, A2, n2, c2, A3, n3, c3⟩ ⟨kind, addr, err, aad, used, 6, (hd : Int), ((k : Int) + 1), leaf, bit, 0, full, 0, tries, item, stamp⟩) rfl)
        try dsimp only [nput] at L
        generalize (w5).setCell ⟨gO, 8, none⟩ (.int .i64 6) = w6 at L ⊢
        have O_15 := L.at_ 1 15 rfl (v := .slice A3 n3 c3) rfl
        have O_z := L.lt 1 rfl
        have O_f15 := L.fz 1 15 rfl
        go_upto_region 13 with fail
        clear O_15 O_z O_f15
        replace L := ((L.set 1 15 rfl (.slice none 0 0)).is 1 (opv ⟨A0, n0, c0, A1, n1, c1, A2, n2, c2, none, 0, 0⟩ ⟨kind, addr, err, aad, used, 6, (hd : Int), ((k : Int) + 1), leaf, bit, 0, full, 0, tries, item, stamp⟩) rfl)
        try dsimp only [nput] at L
        generalize (w6).setCell ⟨gO, 15, none⟩ (.slice none 0 0) = w7 at L ⊢
        go_wp2_with (first | (refine wpList_load_row rfl 40 (.tmp 4) rfl gO rfl _ _ (0, 0) _ (L.bk_ 1 rfl) Tryz.underlying40 rfl op_sz ?_) | (refine wpList_store_row rfl 40 (.tmp 6) (.tmp 45) rfl gR _ rfl rfl _ _ (L.bk_ 0 rfl) op_sz rfl (opv_one _ _) ?_))
        replace L := (L.row 0 rfl (opv ⟨A0, n0, c0, A1, n1, c1, A2, n2, c2, none, 0, 0⟩ ⟨kind, addr, err, aad, used, 6, (hd : Int), ((k : Int) + 1), leaf, bit, 0, full, 0, tries, item, stamp⟩))
        try dsimp only [nput] at L
        generalize (w7).setRow gR (opv ⟨A0, n0, c0, A1, n1, c1, A2, n2, c2, none, 0, 0⟩ ⟨kind, addr, err, aad, used, 6, (hd : Int), ((k : Int) + 1), leaf, bit, 0, full, 0, tries, item, stamp⟩) = w8 at L ⊢
        refine bodyPost_ret (v := .agg (opv ⟨A0, n0, c0, A1, n1, c1, A2, n2, c2, none, 0, 0⟩ ⟨kind, addr, err, aad, used, 6, (hd : Int), ((k : Int) + 1), leaf, bit, 0, full, 0, tries, item, stamp⟩)) ?_ rfl ?_
        · exact results_cell_row (fn := Tryz.f77) Tryz.results77 _ _ gR _ _ (0, 0) _ rfl (L.bk_ 0 rfl) Tryz.underlying40 rfl op_sz
        rw [hon.out]; exact ⟨_, rfl, hZ2 _ _, sa_zero rfl, L.K⟩
set_option maxHeartbeats 2000000 in
theorem rs15_root (hM : Much a p M) (h1 : 1 ≤ ns) (h2 : ns ≤ 64) (hsh : s.shard = (hd : Int)) (hhd : hd < ns) (hso : s.sought = (k : Int)) (hk : k < ns) (hU : US w B m d ys) (hm : m = lv M + tv M + 1) (hph : s.phase = 1) (hw : s.word < 18446744073709551616) (hL : Lists lo w h (gl [])) (hat : s.at_ = 0) :
    Calls Tryz.prog 41 #[.agg #[.int .u32 (a : Int), .int .i64 p, .slice A n c, .int .i64 (ns : Int), .int .i64 wo, .int .i64 qu, .int .i64 tr], .slice B m d, .agg (opv h s)] w (RetRO (skS (ns : Int) M ys (sa M ns hd k) (sb M ns hd k) s) (gl []) h w) := by
  have hm9 := hM.most
  have hl3 := lv_le hm9
  have ht3 := tv_le hm9
  have hcm : lv M + tv M < m := by omega
  obtain ⟨bb, oo, hBe, hbb, hcc⟩ := hU.get hcm
  subst hBe
  have hx64 := gt_lt hU.fit (lv M + tv M)
  obtain ⟨x, hx⟩ : ∃ x, x = gt ys (lv M + tv M) := ⟨_, rfl⟩
  have e0 : skS (ns : Int) M ys (sa M ns hd k) (sb M ns hd k) s = onS (ns : Int) (sa M ns hd k) (sb M ns hd k) (wdS s x) := by unfold skS; rw [if_pos (by omega), hx]
  rw [e0]
  clear e0
  rw [← hx] at hcc hx64
  have TN := fun w (H : Lists lo w h (gl [])) => Lib.hid (rn15_any (w := w) (h := h) (s := wdS s x) (t := 0) (wo := wo) (qu := qu) (tr := tr) (A := A) (n := n) (c := c) hM h1 h2 hsh hhd hso hk hat (by omega) hph hx64 H)
  obtain ⟨i, hi⟩ : ∃ i, i = lv M + tv M := ⟨_, rfl⟩
  rw [← hi] at hcc
  have hi2 : (m : Int) - 1 = (i : Int) := by omega
  have fi : IntKind.i64.wrap (i : Int) = (i : Int) := IntWalk.i64_in _ (by omega)
  have him : (i : Int) < (m : Int) := by omega
  clear hx hi hm hcm hm9 hl3 ht3 hhd hk h1 h2 hx64
  obtain ⟨s2, hs2⟩ : ∃ s2, s2 = onS (ns : Int) (sa M ns hd k) (sb M ns hd k) (wdS s x) := ⟨_, rfl⟩
  rw [← hs2]
  simp only [← hs2] at TN
  clear hs2
  rcases s with ⟨kind, addr, err, aad, used, phase, shard, sought, leaf, bit, word, full, at_, tries, item, stamp⟩
  rcases h with ⟨A0, n0, c0, A1, n1, c1, A2, n2, c2, A3, n3, c3⟩
  try dsimp only at *
  subst hsh hso hat hph
  go_enter Tryz.func41, Tryz.ntmps41
  go_upto_region 1 with (fail)
  have L := Loc.start w
  replace L := (((L).alloc #[.int .u32 (a : Int), .int .i64 p, .slice A n c, .int .i64 (ns : Int), .int .i64 wo, .int .i64 qu, .int .i64 tr] 27).alloc (opv ⟨A0, n0, c0, A1, n1, c1, A2, n2, c2, A3, n3, c3⟩ ⟨kind, addr, err, aad, used, 1, (hd : Int), (k : Int), leaf, bit, word, full, 0, tries, item, stamp⟩) 40).alloc #[.int .i64 0, .int .u32 0, .slice none 0 0, .int .i64 0, .int .u32 0, .bool false, .slice none 0 0, .slice none 0 0, .int .i64 0, .int .i64 0, .int .i64 0, .int .i64 0, .int .i64 0, .int .u64 0, .bool false, .slice none 0 0, .int .i64 0, .int .i64 0, .int .i64 0, .int .i64 0] 40
  try simp only [World.size_alloc] at L
  replace L := L.is 0 (opv hd0 sc0) rfl
  try dsimp only [nput] at L
  generalize (((w).alloc (.cells #[.int .u32 (a : Int), .int .i64 p, .slice A n c, .int .i64 (ns : Int), .int .i64 wo, .int .i64 qu, .int .i64 tr] 27)).alloc (.cells (opv ⟨A0, n0, c0, A1, n1, c1, A2, n2, c2, A3, n3, c3⟩ ⟨kind, addr, err, aad, used, 1, (hd : Int), (k : Int), leaf, bit, word, full, 0, tries, item, stamp⟩) 40)).alloc (.cells #[.int .i64 0, .int .u32 0, .slice none 0 0, .int .i64 0, .int .u32 0, .bool false, .slice none 0 0, .slice none 0 0, .int .i64 0, .int .i64 0, .int .i64 0, .int .i64 0, .int .i64 0, .int .u64 0, .bool false, .slice none 0 0, .int .i64 0, .int .i64 0, .int .i64 0, .int .i64 0] 40) = w1 at L ⊢
  generalize w.heap.size + 1 + 1 = gR at L ⊢
  generalize w.heap.size + 1 = gO at L ⊢
  generalize w.heap.size = gH at L ⊢
  have H_0 := L.at_ 2 0 rfl (v := .int .u32 (a : Int)) rfl
  have H_1 := L.at_ 2 1 rfl (v := .int .i64 p) rfl
  have H_z := L.lt 2 rfl
  go_wp2_with fail
  refine (rmany_yes hM).mono ?_
  rintro e w2 ⟨rfl, K'⟩
  clear H_0 H_1 H_z
  replace L := L.over K'
  have O_16 := L.at_ 1 16 rfl (v := .int .i64 0) rfl
  have O_13 := L.at_ 1 13 rfl (v := .int .u64 ((word : Nat) : Int)) rfl
  have O_z := L.lt 1 rfl
  have O_f13 := L.fz 1 13 rfl
  have X := (L.K.cell (p := ⟨bb, oo + i, none⟩) hbb).trans hcc
  go_upto_region 4 with fail
  clear O_16 O_13 O_z O_f13 X
  replace L := ((L.set 1 13 rfl (.int .u64 ((x : Nat) : Int))).is 1 (opv ⟨A0, n0, c0, A1, n1, c1, A2, n2, c2, A3, n3, c3⟩ ⟨kind, addr, err, aad, used, 1, (hd : Int), (k : Int), leaf, bit, x, full, 0, tries, item, stamp⟩) rfl)
  try dsimp only [nput] at L
  generalize (w2).setCell ⟨gO, 13, none⟩ (.int .u64 ((x : Nat) : Int)) = w3 at L ⊢
  go_wp2_with (first | (refine wpList_load_row rfl 27 (.tmp 3) rfl gH rfl _ _ (0, 0) _ (L.bk_ 2 rfl) Tryz.underlying27 rfl cf_sz ?_) | (refine wpList_load_row rfl 40 (.tmp 5) rfl gO rfl _ _ (0, 0) _ (L.bk_ 1 rfl) Tryz.underlying40 rfl op_sz ?_))
  have KS := L.K.size
  refine ((TN _ (hL.below L.K)).out).mono ?_
  rintro e w4 ⟨h3, rfl, L', hSA, K'⟩
  replace L := L.over K'
  go_wp2_with (refine wpList_store_row rfl 40 (.tmp 6) (.tmp 27) rfl gR _ rfl rfl _ _ (L.bk_ 0 rfl) op_sz rfl (opv_one _ _) ?_)
  replace L := (L.row 0 rfl (opv h3 s2))
  try dsimp only [nput] at L
  generalize (w4).setRow gR (opv h3 s2) = w5 at L ⊢
  refine bodyPost_ret (v := .agg (opv h3 s2)) ?_ rfl ?_
  · exact results_cell_row (fn := Tryz.f41) Tryz.results41 _ _ gR _ _ (0, 0) _ rfl (L.bk_ 0 rfl) Tryz.underlying40 rfl op_sz
  exact ⟨_, rfl, gl_emp L' _ _, fun k hk => hSA k (Nat.lt_of_lt_of_le hk KS), L.K⟩
set_option maxHeartbeats 2000000 in
theorem rs15_top (hM : Much a p M) (h1 : 1 ≤ ns) (h2 : ns ≤ 64) (hsh : s.shard = (hd : Int)) (hhd : hd < ns) (hso : s.sought = (k : Int)) (hk : k < ns) (hU : US w B m d ys) (hm : m = lv M + tv M + 1) (hph : s.phase = 1) (hw : s.word < 18446744073709551616) (hL : Lists lo w h (gl [])) (hat : s.at_ = (t : Int) + 1) (htv : t < tv M) :
    Calls Tryz.prog 41 #[.agg #[.int .u32 (a : Int), .int .i64 p, .slice A n c, .int .i64 (ns : Int), .int .i64 wo, .int .i64 qu, .int .i64 tr], .slice B m d, .agg (opv h s)] w (RetRO (skS (ns : Int) M ys (sa M ns hd k) (sb M ns hd k) s) (gl []) h w) := by
  have hm9 := hM.most
  have hl3 := lv_le hm9
  have ht3 := tv_le hm9
  have hcm : lv M + t < m := by omega
  obtain ⟨bb, oo, hBe, hbb, hcc⟩ := hU.get hcm
  subst hBe
  have hx64 := gt_lt hU.fit (lv M + t)
  obtain ⟨x, hx⟩ : ∃ x, x = gt ys (lv M + t) := ⟨_, rfl⟩
  have e0 : skS (ns : Int) M ys (sa M ns hd k) (sb M ns hd k) s = topS (ns : Int) (sa M ns hd k) (sb M ns hd k) x t s := by
    unfold skS topS; rw [if_neg (by omega), show s.at_.toNat - 1 = t by omega, ← hx]; rfl
  rw [e0]
  clear e0
  rw [← hx] at hcc hx64
  have TN := fun w (H : Lists lo w h (gl [])) => Lib.hid (rn15_any (w := w) (h := h) (s := s) (t := t + 1) (wo := wo) (qu := qu) (tr := tr) (A := A) (n := n) (c := c) hM h1 h2 hsh hhd hso hk (by omega) (by omega) hph hw H)
  simp only [Int.natCast_add, Int.cast_ofNat_Int] at TN
  have TG := fun w h => Lib.hid (rr15_any (w := w) (h := h) (s := s) (wo := wo) (qu := qu) (tr := tr) (A := A) (n := n) (c := c) hM h1 h2 hsh hhd hso hk)
  unfold RetII at TG
  obtain ⟨hab, hbl⟩ := sab (M := M) (hd := hd) (k := k) h1
  generalize sa M ns hd k = qa at TG TN hab ⊢
  generalize sb M ns hd k = qb at TG TN hab hbl ⊢
  have TLv := fun w => Lib.hid (rleaves_any M hm9 w)
  obtain ⟨LV, hLV⟩ : ∃ x, x = lv M := ⟨_, rfl⟩
  rw [← hLV] at TLv hcc hbl hl3 hcm
  obtain ⟨i, hi⟩ : ∃ i, i = LV + t := ⟨_, rfl⟩
  rw [← hi] at hcc
  have z3 := Lib.hid (gl_len hL).2.2.2
  have hZ := fun lo2 w2 => gl_emp hL lo2 w2
  have g1 : (LV : Int) + ((t : Int) + 1) = ((i + 1 : Nat) : Int) := by omega
  have g2 : ((i + 1 : Nat) : Int) - 1 = (i : Int) := by omega
  obtain ⟨i1, hi1⟩ : ∃ y, y = i + 1 := ⟨_, rfl⟩
  rw [← hi1] at g1 g2
  have fi : IntKind.i64.wrap (i : Int) = (i : Int) := IntWalk.i64_in _ (by omega)
  have fi1 : IntKind.i64.wrap (i1 : Int) = (i1 : Int) := IntWalk.i64_in _ (by omega)
  have ft1 : (t : Int) + 1 - 1 = (t : Int) := by omega
  have ft2 : IntKind.i64.wrap (t : Int) = (t : Int) := IntWalk.i64_in _ (by omega)
  have e9 : ((t : Int) + 1 == 0) = false := by simp; omega
  have him : (i : Int) < (m : Int) := by omega
  clear hx hi hi1 hLV hm hcm hm9 hhd hk h1 h2
  rcases s with ⟨kind, addr, err, aad, used, phase, shard, sought, leaf, bit, word, full, at_, tries, item, stamp⟩
  rcases h with ⟨A0, n0, c0, A1, n1, c1, A2, n2, c2, A3, n3, c3⟩
  try dsimp only at *
  subst hsh hso hat hph
  go_enter Tryz.func41, Tryz.ntmps41
  go_upto_region 1 with (fail)
  have L := Loc.start w
  replace L := (((L).alloc #[.int .u32 (a : Int), .int .i64 p, .slice A n c, .int .i64 (ns : Int), .int .i64 wo, .int .i64 qu, .int .i64 tr] 27).alloc (opv ⟨A0, n0, c0, A1, n1, c1, A2, n2, c2, A3, n3, c3⟩ ⟨kind, addr, err, aad, used, 1, (hd : Int), (k : Int), leaf, bit, word, full, ((t : Int) + 1), tries, item, stamp⟩) 40).alloc #[.int .i64 0, .int .u32 0, .slice none 0 0, .int .i64 0, .int .u32 0, .bool false, .slice none 0 0, .slice none 0 0, .int .i64 0, .int .i64 0, .int .i64 0, .int .i64 0, .int .i64 0, .int .u64 0, .bool false, .slice none 0 0, .int .i64 0, .int .i64 0, .int .i64 0, .int .i64 0] 40
  try simp only [World.size_alloc] at L
  replace L := L.is 0 (opv hd0 sc0) rfl
  try dsimp only [nput] at L
  generalize (((w).alloc (.cells #[.int .u32 (a : Int), .int .i64 p, .slice A n c, .int .i64 (ns : Int), .int .i64 wo, .int .i64 qu, .int .i64 tr] 27)).alloc (.cells (opv ⟨A0, n0, c0, A1, n1, c1, A2, n2, c2, A3, n3, c3⟩ ⟨kind, addr, err, aad, used, 1, (hd : Int), (k : Int), leaf, bit, word, full, ((t : Int) + 1), tries, item, stamp⟩) 40)).alloc (.cells #[.int .i64 0, .int .u32 0, .slice none 0 0, .int .i64 0, .int .u32 0, .bool false, .slice none 0 0, .slice none 0 0, .int .i64 0, .int .i64 0, .int .i64 0, .int .i64 0, .int .i64 0, .int .u64 0, .bool false, .slice none 0 0, .int .i64 0, .int .i64 0, .int .i64 0, .int .i64 0] 40) = w1 at L ⊢
  generalize w.heap.size + 1 + 1 = gR at L ⊢
  generalize w.heap.size + 1 = gO at L ⊢
  generalize w.heap.size = gH at L ⊢
  have H_0 := L.at_ 2 0 rfl (v := .int .u32 (a : Int)) rfl
  have H_1 := L.at_ 2 1 rfl (v := .int .i64 p) rfl
  have H_z := L.lt 2 rfl
  go_wp2_with fail
  refine (rmany_yes hM).mono ?_
  rintro e w2 ⟨rfl, K'⟩
  clear H_0 H_1 H_z
  replace L := L.over K'
  have O_16 := L.at_ 1 16 rfl (v := .int .i64 (((t : Int) + 1))) rfl
  have O_z := L.lt 1 rfl
  go_upto_region 5 with fail
  clear O_16 O_z
  replace L := L.drew
  refine wp_region_held_drew (S := fun w' => Loc w w' [(gR, 40, opv hd0 sc0), (gO, 40, opv ⟨A0, n0, c0, A1, n1, c1, A2, n2, c2, A3, n3, c3⟩ ⟨kind, addr, err, aad, used, 1, (hd : Int), (k : Int), leaf, bit, word, full, ((t : Int) + 1), tries, item, stamp⟩), (gH, 27, #[.int .u32 (a : Int), .int .i64 p, .slice A n c, .int .i64 (ns : Int), .int .i64 wo, .int .i64 qu, .int .i64 tr])] []) (by kernel_rfl) L (fun hHeld => ?_)
  generalize w2.drew = v3 at hHeld L ⊢
  refine wpAnyH_take (i := 0) (oi := ⟨some 28, _, _, _, _, _⟩) (v := .slice (some ⟨bb, oo, none⟩) m d) rfl (by kernel_rfl) (by kernel_rfl) (by kernel_rfl) (fun _ _ _ h => h) (Or.inl ⟨by rfl, ?_⟩) hHeld ?_
  · (intro ww hS; go_simp; try with_reducible rfl; try omega)
  try simp only [Act.put, sA, sZ, sS]
  refine wpAnyH_take (i := 1) (oi := ⟨some 29, _, _, _, _, _⟩) (v := .int .i64 (M : Int)) rfl (by kernel_rfl) (by kernel_rfl) (by kernel_rfl) (fun _ _ _ h => h) (Or.inl ⟨by rfl, ?_⟩) hHeld ?_
  · (intro ww hS; go_simp; try with_reducible rfl; try omega)
  try simp only [Act.put, sA, sZ, sS]
  refine wpAnyH_take (i := 3) (oi := ⟨some 31, _, _, _, _, _⟩) (v := .pointer (some ⟨gO, 16, none⟩)) rfl (by kernel_rfl) (by kernel_rfl) (by kernel_rfl) (fun _ _ _ h => h) (Or.inl ⟨by rfl, ?_⟩) hHeld ?_
  · (intro ww hS; go_simp; try with_reducible rfl; try omega)
  try simp only [Act.put, sA, sZ, sS]
  refine wpAnyH_take (i := 4) (oi := ⟨some 32, _, _, _, _, _⟩) (v := .int .i64 (((t : Int) + 1))) rfl (by kernel_rfl) (by kernel_rfl) (by kernel_rfl) (fun _ _ _ h => h) (Or.inl ⟨by rfl, ?_⟩) hHeld ?_
  · intro ww hS
    try dsimp only at hS
    have O_16 := (hS).at_ 1 16 rfl (v := .int .i64 (((t : Int) + 1))) rfl
    have O_z := (hS).lt 1 rfl
    go_simp
    try with_reducible rfl
    try omega
  try simp only [Act.put, sA, sZ, sS]
  refine wpAnyH_ready (rs := [2]) (by kernel_rfl) (by simp) ?_
  refine AllReadyH.cons (o := ⟨some 30, _, _, _, _, _⟩) rfl (fun K0 hK => ?_) AllReadyH.nil
  go_simp
  refine ((TLv _).out).mono ?_
  rintro e w' ⟨rfl, rfl⟩
  refine hK.out _ _ L (fun hHeld' => ?_)
  clear hHeld hK K0
  have hHeld := hHeld'
  clear hHeld'
  try simp only [Act.put, sA, sZ, sS]
  refine wpAnyH_take (i := 5) (oi := ⟨some 33, _, _, _, _, _⟩) (v := .int .i64 (i1 : Int)) rfl (by kernel_rfl) (by kernel_rfl) (by kernel_rfl) (fun _ _ _ h => h) (Or.inl ⟨by rfl, ?_⟩) hHeld ?_
  · (intro ww hS; go_simp; try with_reducible rfl; try omega)
  try simp only [Act.put, sA, sZ, sS]
  refine wpAnyH_take (i := 6) (oi := ⟨some 34, _, _, _, _, _⟩) (v := .int .i64 (i : Int)) rfl (by kernel_rfl) (by kernel_rfl) (by kernel_rfl) (fun _ _ _ h => h) (Or.inl ⟨by rfl, ?_⟩) hHeld ?_
  · (intro ww hS; go_simp; try with_reducible rfl; try omega)
  try simp only [Act.put, sA, sZ, sS]
  refine wpAnyH_take (i := 7) (oi := ⟨some 35, _, _, _, _, _⟩) (v := .pointer (some ⟨bb, oo + i, none⟩)) rfl (by kernel_rfl) (by kernel_rfl) (by kernel_rfl) (fun _ _ _ h => h) (Or.inl ⟨by rfl, ?_⟩) hHeld ?_
  · (intro ww hS; go_simp; try with_reducible rfl; try omega)
  try simp only [Act.put, sA, sZ, sS]
  refine wpAnyH_take (i := 8) (oi := ⟨some 36, _, _, _, _, _⟩) (v := .int .u64 ((x : Nat) : Int)) rfl (by kernel_rfl) (by kernel_rfl) (by kernel_rfl) (fun _ _ _ h => h) (Or.inl ⟨by rfl, ?_⟩) hHeld ?_
  · intro ww hS
    try dsimp only at hS
    have X := (((hS)).K.cell (p := ⟨bb, oo + i, none⟩) hbb).trans hcc
    go_simp
    try with_reducible rfl
    try omega
  try simp only [Act.put, sA, sZ, sS]
  refine wpAnyH_take (i := 9) (oi := ⟨some 8, _, _, _, _, _⟩) (v := .int .u64 ((x : Nat) : Int)) rfl (by kernel_rfl) (by kernel_rfl) (by kernel_rfl) (fun _ _ _ h => h) (Or.inl ⟨by rfl, ?_⟩) hHeld ?_
  · (intro ww hS; go_simp; try with_reducible rfl; try omega)
  try simp only [Act.put, sA, sZ, sS]
  refine wpAnyH_done (by kernel_rfl) ?_ _
  clear hHeld
  go_wp2_with (first | (refine wpList_load_row rfl 27 (.tmp 3) rfl gH rfl _ _ (0, 0) _ (L.bk_ 2 rfl) Tryz.underlying27 rfl cf_sz ?_) | (refine wpList_load_row rfl 40 (.tmp 5) rfl gO rfl _ _ (0, 0) _ (L.bk_ 1 rfl) Tryz.underlying40 rfl op_sz ?_))
  refine ((TG _ _).out).mono ?_
  rintro e w4 ⟨rfl, K'⟩
  replace L := L.over K'
  go_wp2
  go_loopw [11] (fun iv wr => ∃ j : Nat, qa ≤ j ∧ j ≤ qb ∧ iv = .int .i64 (j : Nat) ∧ (∀ i, qa ≤ i → i < j → i / 64 = t → x.testBit (i % 64) = true) ∧ Loc w wr [(gR, 40, opv hd0 sc0), (gO, 40, opv ⟨A0, n0, c0, A1, n1, c1, A2, n2, c2, A3, n3, c3⟩ ⟨kind, addr, err, aad, used, 1, (hd : Int), (k : Int), leaf, bit, word, full, ((t : Int) + 1), tries, item, stamp⟩), (gH, 27, #[.int .u32 (a : Int), .int .i64 p, .slice A n c, .int .i64 (ns : Int), .int .i64 wo, .int .i64 qu, .int .i64 tr])] []) (fun iv _ => qb - (intOf iv).toNat)
  case atStart => exact ⟨qa, Nat.le_refl _, hab, rfl, fun i h1 h2 => absurd h2 (by omega), L⟩
  case round =>
    clear L
    obtain ⟨j, hj1, hj2, rfl, hno, L⟩ := hrel
    by_cases hlt : j < qb
    · have hlt2 : (j : Int) < (qb : Int) := by omega
      obtain ⟨q, hq⟩ : ∃ q, q = j / 64 := ⟨_, rfl⟩
      obtain ⟨r, hr⟩ : ∃ r, r = j % 64 := ⟨_, rfl⟩
      have d1 : (j : Int) / 64 = (q : Int) := by omega
      have d2 : (j : Int).tdiv 64 = (q : Int) := by rw [Int.tdiv_eq_ediv_of_nonneg (by omega)]; omega
      have d3 : (j : Int) % 64 = (r : Int) := by omega
      have d4 : (j : Int).tmod 64 = (r : Int) := by rw [Int.tmod_eq_emod_of_nonneg (by omega)]; omega
      have TH := fun w => Lib.hid (rhas_any x r hx64 (by omega) w)
      by_cases e : q = t
      · cases hB : x.testBit r with
        | false =>
          rw [hB] at TH
          have e2 : ((q : Int) == (t : Int)) = true := by simp [e]
          have hon : topS (ns : Int) qa qb x t ⟨kind, addr, err, aad, used, 1, (hd : Int), (k : Int), leaf, bit, word, full, ((t : Int) + 1), tries, item, stamp⟩ = ⟨kind, addr, err, aad, used, 2, (hd : Int), (k : Int), (j : Int), bit, 0, full, 0, tries, item, stamp⟩ := by
            unfold topS; rw [fre_is hj1 hlt (hq.symm.trans e) (by rw [← hr]; exact hB) hno]; rfl
          replace hon := Lib.hid hon
          clear hno hq hr e hB
          have O_16 := L.at_ 1 16 rfl (v := .int .i64 (((t : Int) + 1))) rfl
          have O_z := L.lt 1 rfl
          go_wp2_with fail
          refine ((TH _).out).mono ?_
          rintro e w' ⟨rfl, rfl⟩
          clear O_16 O_z
          have O_11 := L.at_ 1 11 rfl (v := .int .i64 leaf) rfl
          have O_z := L.lt 1 rfl
          have O_f11 := L.fz 1 11 rfl
          go_upto_region 12 with fail
          clear O_11 O_z O_f11
          replace L := ((L.set 1 11 rfl (.int .i64 (j : Int))).is 1 (opv ⟨A0, n0, c0, A1, n1, c1, A2, n2, c2, A3, n3, c3⟩ ⟨kind, addr, err, aad, used, 1, (hd : Int), (k : Int), (j : Int), bit, word, full, ((t : Int) + 1), tries, item, stamp⟩) rfl)
          try dsimp only [nput] at L
          generalize (wr).setCell ⟨gO, 11, none⟩ (.int .i64 (j : Int)) = w5 at L ⊢
          have O_8 := L.at_ 1 8 rfl (v := .int .i64 1) rfl
          have O_z := L.lt 1 rfl
          have O_f8 := L.fz 1 8 rfl
          go_upto_region 13 with fail
          clear O_8 O_z O_f8
          replace L := ((L.set 1 8 rfl (.int .i64 2)).is 1 (opv ⟨A0, n0, c0, A1, n1, c1, A2, n2, c2, A3, n3, c3⟩ ⟨kind, addr, err, aad, used, 2, (hd : Int), (k : Int), (j : Int), bit, word, full, ((t : Int) + 1), tries, item, stamp⟩) rfl)
          try dsimp only [nput] at L
          generalize (w5).setCell ⟨gO, 8, none⟩ (.int .i64 2) = w6 at L ⊢
          have O_13 := L.at_ 1 13 rfl (v := .int .u64 ((word : Nat) : Int)) rfl
          have O_z := L.lt 1 rfl
          have O_f13 := L.fz 1 13 rfl
          go_upto_region 14 with fail
          clear O_13 O_z O_f13
          replace L := ((L.set 1 13 rfl (.int .u64 0)).is 1 (opv ⟨A0, n0, c0, A1, n1, c1, A2, n2, c2, A3, n3, c3⟩ ⟨kind, addr, err, aad, used, 2, (hd : Int), (k : Int), (j : Int), bit, 0, full, ((t : Int) + 1), tries, item, stamp⟩) rfl)
          try dsimp only [nput] at L
          generalize (w6).setCell ⟨gO, 13, none⟩ (.int .u64 0) = w7 at L ⊢
          have O_16 := L.at_ 1 16 rfl (v := .int .i64 (((t : Int) + 1))) rfl
          have O_z := L.lt 1 rfl
          have O_f16 := L.fz 1 16 rfl
          go_upto_region 15 with fail
          clear O_16 O_z O_f16
          replace L := ((L.set 1 16 rfl (.int .i64 0)).is 1 (opv ⟨A0, n0, c0, A1, n1, c1, A2, n2, c2, A3, n3, c3⟩ ⟨kind, addr, err, aad, used, 2, (hd : Int), (k : Int), (j : Int), bit, 0, full, 0, tries, item, stamp⟩) rfl)
          try dsimp only [nput] at L
          generalize (w7).setCell ⟨gO, 16, none⟩ (.int .i64 0) = w8 at L ⊢
          go_wp2_with (first | (refine wpList_load_row rfl 40 (.tmp 5) rfl gO rfl _ _ (0, 0) _ (L.bk_ 1 rfl) Tryz.underlying40 rfl op_sz ?_) | (refine wpList_store_row rfl 40 (.tmp 6) (.tmp 67) rfl gR _ rfl rfl _ _ (L.bk_ 0 rfl) op_sz rfl (opv_one _ _) ?_))
          replace L := (L.row 0 rfl (opv ⟨A0, n0, c0, A1, n1, c1, A2, n2, c2, A3, n3, c3⟩ ⟨kind, addr, err, aad, used, 2, (hd : Int), (k : Int), (j : Int), bit, 0, full, 0, tries, item, stamp⟩))
          try dsimp only [nput] at L
          generalize (w8).setRow gR (opv ⟨A0, n0, c0, A1, n1, c1, A2, n2, c2, A3, n3, c3⟩ ⟨kind, addr, err, aad, used, 2, (hd : Int), (k : Int), (j : Int), bit, 0, full, 0, tries, item, stamp⟩) = w9 at L ⊢
          refine bodyPost_ret (v := .agg (opv ⟨A0, n0, c0, A1, n1, c1, A2, n2, c2, A3, n3, c3⟩ ⟨kind, addr, err, aad, used, 2, (hd : Int), (k : Int), (j : Int), bit, 0, full, 0, tries, item, stamp⟩)) ?_ rfl ?_
          · exact results_cell_row (fn := Tryz.f41) Tryz.results41 _ _ gR _ _ (0, 0) _ rfl (L.bk_ 0 rfl) Tryz.underlying40 rfl op_sz
          rw [hon.out]; exact ⟨_, rfl, hZ _ _, sa_zero z3.out, L.K⟩
        | true =>
          rw [hB] at TH
          have e2 : ((q : Int) == (t : Int)) = true := by simp [e]
          have hno2 : ∀ i, qa ≤ i → i < j + 1 → i / 64 = t → x.testBit (i % 64) = true := fun i g1 g2 g3 => by
            rcases Nat.lt_or_ge i j with h | h
            · exact hno i g1 h g3
            · obtain rfl : i = j := by omega
              rw [← hr]; exact hB
          replace hno2 := Lib.hid hno2
          clear hq hr e hno hB
          have O_16 := L.at_ 1 16 rfl (v := .int .i64 (((t : Int) + 1))) rfl
          have O_z := L.lt 1 rfl
          go_wp2_with fail
          refine ((TH _).out).mono ?_
          rintro e w' ⟨rfl, rfl⟩
          clear O_16 O_z
          go_wp2
          go_roundw
          case rel => exact ⟨j + 1, by omega, by omega, by go_num, hno2.out, L⟩
          case measure => simp [intOf]; omega
      · have e2 : ((q : Int) == (t : Int)) = false := by simp; omega
        have hno2 : ∀ i, qa ≤ i → i < j + 1 → i / 64 = t → x.testBit (i % 64) = true := fun i g1 g2 g3 => by
          rcases Nat.lt_or_ge i j with h | h
          · exact hno i g1 h g3
          · obtain rfl : i = j := by omega
            omega
        replace hno2 := Lib.hid hno2
        clear hq hr e hno
        have O_16 := L.at_ 1 16 rfl (v := .int .i64 (((t : Int) + 1))) rfl
        have O_z := L.lt 1 rfl
        go_wp2_with fail
        clear O_16 O_z
        go_roundw
        case rel => exact ⟨j + 1, by omega, by omega, by go_num, hno2.out, L⟩
        case measure => simp [intOf]; omega
    · have hjq : j = qb := by omega
      have hge : ¬ ((j : Int) < (qb : Int)) := by omega
      have hT : fre qa qb x t = none := fre_no (by rw [← hjq]; exact hno)
      have hon : topS (ns : Int) qa qb x t ⟨kind, addr, err, aad, used, 1, (hd : Int), (k : Int), leaf, bit, word, full, ((t : Int) + 1), tries, item, stamp⟩ = onS (ns : Int) qa qb ⟨kind, addr, err, aad, used, 1, (hd : Int), (k : Int), leaf, bit, word, full, ((t : Int) + 1), tries, item, stamp⟩ := by unfold topS; rw [hT]
      clear hT hno
      obtain ⟨s2, hs2⟩ : ∃ s2, s2 = onS (ns : Int) qa qb ⟨kind, addr, err, aad, used, 1, (hd : Int), (k : Int), leaf, bit, word, full, ((t : Int) + 1), tries, item, stamp⟩ := ⟨_, rfl⟩
      simp only [← hs2] at TN
      replace hon := Lib.hid (hon.trans hs2.symm)
      clear hs2
      have O_16 := L.at_ 1 16 rfl (v := .int .i64 (((t : Int) + 1))) rfl
      have O_z := L.lt 1 rfl
      go_wp2_with (first | (refine wpList_load_row rfl 27 (.tmp 3) rfl gH rfl _ _ (0, 0) _ (L.bk_ 2 rfl) Tryz.underlying27 rfl cf_sz ?_) | (refine wpList_load_row rfl 40 (.tmp 5) rfl gO rfl _ _ (0, 0) _ (L.bk_ 1 rfl) Tryz.underlying40 rfl op_sz ?_))
      have KS := L.K.size
      refine ((TN _ (hL.below L.K)).out).mono ?_
      rintro e w5 ⟨h3, rfl, L', hSA, K'⟩
      clear O_16 O_z
      replace L := L.over K'
      go_wp2_with (refine wpList_store_row rfl 40 (.tmp 6) (.tmp 72) rfl gR _ rfl rfl _ _ (L.bk_ 0 rfl) op_sz rfl (opv_one _ _) ?_)
      replace L := (L.row 0 rfl (opv h3 s2))
      try dsimp only [nput] at L
      generalize (w5).setRow gR (opv h3 s2) = w6 at L ⊢
      refine bodyPost_ret (v := .agg (opv h3 s2)) ?_ rfl ?_
      · exact results_cell_row (fn := Tryz.f41) Tryz.results41 _ _ gR _ _ (0, 0) _ rfl (L.bk_ 0 rfl) Tryz.underlying40 rfl op_sz
      rw [hon.out]; exact ⟨_, rfl, gl_emp L' _ _, fun k hk => hSA k (Nat.lt_of_lt_of_le hk KS), L.K⟩
end
end Go.Proofs.YtghecdccdmeooaaGreat
