/-
  What each function of package queue answers, as numbers, lists and bools: the world grows, and nothing that was there is otherwise. Conditions: at most 65536 numbers.
-/
import Derived.Test.YtlaihgcpaiocpaaIntMath
import Derived.RegionTactic
import Derived.Lib.SliceRun
import Derived.BigQuiet
import Derived.Deep.QuietTactic
namespace Go.Proofs.Ytlaihgcpaiocpaa
open Go.RowKit
def mayB (m : Int) (n : Nat) : Bool := decide (1 ≤ m ∧ m ≤ 64 ∧ (n : Int) ≤ m)
theorem int_info : (Try.prog.info? 3).map (fun i => (i.zero, i.size, i.bytes)) = some (some (Value.int .i64 0), 1, 8) := by kernel_rfl
theorem info_parts {P : Program} {e : TypeId} {z : Value} {s b : Nat} (h : (P.info? e).map (fun i => (i.zero, i.size, i.bytes)) = some (some z, s, b)) : ∃ i, P.info? e = some i ∧ i.zero = some z ∧ i.size = s ∧ i.bytes = b := by
  cases hi : P.info? e with
  | none => rw [hi] at h; cases h
  | some i =>
    rw [hi] at h
    simp only [Option.map_some, Option.some.injEq, Prod.mk.injEq] at h
    exact ⟨i, rfl, h.1, h.2.1, h.2.2⟩
theorem may_any (m : Int) (A : Option Addr) (n c : Nat) (cl : Bool) (w : World) :
    Calls Try.prog 7 #[.agg #[.int .i64 m, .slice A n c, .bool cl]] w fun e w' => e = .returned (.bool (mayB m n)) ∧ Below w.heap.size w w' := by
  by_cases h1 : 1 ≤ m
  · by_cases h2 : m ≤ 64
    · by_cases h3 : (n : Int) ≤ m
      · have E : mayB m n = true := by unfold mayB; simp; omega
        rw [E]
        clear E
        go_enter Try.func7, Try.ntmps7
        go_wp2
        go_ret
        exact ⟨rfl, below_alloc w _⟩
      · have E : mayB m n = false := by unfold mayB; simp; omega
        have e1 : decide ((n : Int) ≤ m) = false := by simpa using h3
        rw [E]
        clear E h3
        go_enter Try.func7, Try.ntmps7
        go_wp2
        go_ret
        exact ⟨rfl, below_alloc w _⟩
    · have E : mayB m n = false := by unfold mayB; simp; omega
      have e1 : decide (m ≤ 64) = false := by simpa using h2
      rw [E]
      clear E h2
      go_enter Try.func7, Try.ntmps7
      go_wp2
      go_ret
      exact ⟨rfl, below_alloc w _⟩
  · have E : mayB m n = false := by unfold mayB; simp; omega
    have e1 : decide (1 ≤ m) = false := by simpa using h1
    rw [E]
    clear E h1
    go_enter Try.func7, Try.ntmps7
    go_wp2
    go_ret
    exact ⟨rfl, below_alloc w _⟩
theorem rmay_any (m : Int) (A : Option Addr) (n c : Nat) (cl : Bool) (w : World) :
    Calls Try.prog 8 #[.agg #[.int .i64 m, .slice A n c, .bool cl]] w fun e w' => e = .returned (.bool (mayB m n)) ∧ Below w.heap.size w w' := by
  by_cases h1 : 1 ≤ m
  · by_cases h2 : m ≤ 64
    · by_cases h3 : (n : Int) ≤ m
      · have E : mayB m n = true := by unfold mayB; simp; omega
        rw [E]
        clear E
        go_enter Try.func8, Try.ntmps8
        go_wp2
        go_ret
        exact ⟨rfl, below_alloc w _⟩
      · have E : mayB m n = false := by unfold mayB; simp; omega
        have e1 : decide ((n : Int) ≤ m) = false := by simpa using h3
        rw [E]
        clear E h3
        go_enter Try.func8, Try.ntmps8
        go_wp2
        go_ret
        exact ⟨rfl, below_alloc w _⟩
    · have E : mayB m n = false := by unfold mayB; simp; omega
      have e1 : decide (m ≤ 64) = false := by simpa using h2
      rw [E]
      clear E h2
      go_enter Try.func8, Try.ntmps8
      go_wp2
      go_ret
      exact ⟨rfl, below_alloc w _⟩
  · have E : mayB m n = false := by unfold mayB; simp; omega
    have e1 : decide (1 ≤ m) = false := by simpa using h1
    rw [E]
    clear E h1
    go_enter Try.func8, Try.ntmps8
    go_wp2
    go_ret
    exact ⟨rfl, below_alloc w _⟩
section
variable {m : Int} {A : Option Addr} {n c : Nat} {cl : Bool} {w : World}
theorem ends_any :
    Calls Try.prog 16 #[.agg #[.int .i64 m, .slice A n c, .bool cl]] w fun e w' => e = .returned (.bool (cl && n == 0)) ∧ Below w.heap.size w w' := by
  cases cl with
  | false =>
    go_enter Try.func16, Try.ntmps16
    go_wp2
    go_ret
    exact ⟨rfl, below_alloc w _⟩
  | true =>
    by_cases h0 : n = 0
    · subst h0
      go_enter Try.func16, Try.ntmps16
      go_wp2
      go_ret
      exact ⟨rfl, below_alloc w _⟩
    · have e1 : ((n : Int) == 0) = false := by simpa using h0
      have e2 : (n == 0) = false := by simpa using h0
      clear h0
      go_enter Try.func16, Try.ntmps16
      go_wp2
      go_ret
      exact ⟨by rw [e2]; rfl, below_alloc w _⟩
end
/-- Block g is a queue's three cells, none of them frozen. -/
def Q3 (w : World) (g : Nat) (a b c : Value) : Prop := w.heap[g]? = some (.cells #[a, b, c] 24 (0, 0))
section
variable {w w' : World} {g : Nat} {a b c : Value}
theorem Q3.lt (h : Q3 w g a b c) : g < w.heap.size := lt_of_block h
theorem Q3.c0 (h : Q3 w g a b c) : w.cell? ⟨g, 0, none⟩ = some a := cell_of_row w g 0 _ _ (0, 0) h
theorem Q3.c1 (h : Q3 w g a b c) : w.cell? ⟨g, 1, none⟩ = some b := cell_of_row w g 1 _ _ (0, 0) h
theorem Q3.c2 (h : Q3 w g a b c) : w.cell? ⟨g, 2, none⟩ = some c := cell_of_row w g 2 _ _ (0, 0) h
theorem Q3.fz (h : Q3 w g a b c) (i : Nat) : w.frozen? ⟨g, i, none⟩ = false := by
  unfold Q3 at h
  simp [World.frozen?, h]
theorem Q3.below (h : Q3 w g a b c) (K : Below w.heap.size w w') : Q3 w' g a b c := (K.block g h.lt).trans h
theorem Q3.under (h : Q3 w g a b c) {B : Nat} (K : Below B w w') (hg : g < B) : Q3 w' g a b c := (K.block g hg).trans h
theorem Q3.new (w : World) (a b c : Value) : Q3 (w.alloc (.cells #[a, b, c] 24)) w.heap.size a b c := heap_alloc_new w _
theorem Q3.alloc (h : Q3 w g a b c) (o : Obj) : Q3 (w.alloc o) g a b c := h.below (below_alloc w o)
theorem Q3.set_ (h : Q3 w g a b c) (a' b' c' : Value) : Q3 (((w.setCell ⟨g, 0, none⟩ a').setCell ⟨g, 1, none⟩ b').setCell ⟨g, 2, none⟩ c') g a' b' c' := by
  unfold Q3 at h ⊢
  simp [World.setCell, Array.getElem?_modify, h]
theorem Q3.far (h : Q3 w g a b c) {p : Addr} (hp : g ≠ p.block) (u : Value) : Q3 (w.setCell p u) g a b c := (Below.heap_setCell w p u g hp).trans h
end
/-- A queue that is answered, and an error's number. -/
def RetQE (lo : Nat) (m : Int) (n : Nat) (xs : List Int) (cl : Bool) (er : Int) (w : World) (e : Ending) (w' : World) : Prop :=
  ∃ A c, e = .returned (.tuple #[.agg #[.int .i64 m, .slice A n c, .bool cl], .int .i64 er]) ∧ IS .i64 lo w' A n c xs ∧ Below w.heap.size w w'
theorem new_yes {m : Int} (h1 : 1 ≤ m) (h2 : m ≤ 64) (w : World) :
    Calls Try.prog 9 #[.int .i64 m] w fun e w' => e = .returned (.tuple #[.agg #[.int .i64 m, .slice none 0 0, .bool false], .int .i64 0]) ∧ Below w.heap.size w w' := by
  have E : mayB m 0 = true := by unfold mayB; simp; omega
  go_enter Try.func9, Try.ntmps9
  go_wp2_with fail
  refine (may_any m none 0 0 false _).mono ?_
  rintro e w1 ⟨rfl, K1⟩
  have HR := ((Q3.new w (.int .i64 0) (.slice none 0 0) (.bool false)).alloc (.cells #[.int .i64 m, .slice none 0 0, .bool false] 24)).below K1
  have HQ := (Q3.new (w.alloc (.cells #[.int .i64 0, .slice none 0 0, .bool false] 24)) (.int .i64 m) (.slice none 0 0) (.bool false)).below K1
  simp only [World.size_alloc] at HQ
  have q0 := HR.c0
  have q1 := HR.c1
  have q2 := HR.c2
  have r0 := HQ.c0
  have r1 := HQ.c1
  have r2 := HQ.c2
  have f0 := HR.fz 0
  have f1 := HR.fz 1
  have f2 := HR.fz 2
  have K2 := Below.then_ (Below.then_ (below_alloc w _) (below_alloc _ _)) K1
  clear HR HQ
  go_wp2
  exact bodyPost_ret (v := .tuple #[.agg #[.int .i64 m, .slice none 0 0, .bool false], .int .i64 0]) (by simp [results, Try.results9, go_sem, q0, q1, q2]) rfl ⟨rfl, ((K2.setCell (Nat.le_refl _) _).setCell (Nat.le_refl _) _).setCell (Nat.le_refl _) _⟩
theorem new_no {m : Int} (h : m < 1 ∨ 64 < m) (w : World) :
    Calls Try.prog 9 #[.int .i64 m] w fun e w' => e = .returned (.tuple #[.agg #[.int .i64 0, .slice none 0 0, .bool false], .int .i64 1]) ∧ Below w.heap.size w w' := by
  have E : mayB m 0 = false := by unfold mayB; simp; omega
  clear h
  go_enter Try.func9, Try.ntmps9
  go_wp2_with fail
  refine (may_any m none 0 0 false _).mono ?_
  rintro e w1 ⟨rfl, K1⟩
  have HR := ((Q3.new w (.int .i64 0) (.slice none 0 0) (.bool false)).alloc (.cells #[.int .i64 m, .slice none 0 0, .bool false] 24)).below K1
  have q0 := HR.c0
  have q1 := HR.c1
  have q2 := HR.c2
  have f0 := HR.fz 0
  have f1 := HR.fz 1
  have f2 := HR.fz 2
  have K2 := Below.then_ (Below.then_ (below_alloc w _) (below_alloc _ _)) K1
  clear HR
  go_wp2
  exact bodyPost_ret (v := .tuple #[.agg #[.int .i64 0, .slice none 0 0, .bool false], .int .i64 1]) (by simp [results, Try.results9, go_sem, q0, q1, q2]) rfl ⟨rfl, ((K2.setCell (Nat.le_refl _) _).setCell (Nat.le_refl _) _).setCell (Nat.le_refl _) _⟩
theorem clone_any {w : World} {lo : Nat} {A : Option Addr} {n c : Nat} {xs : List Int} (h : IS .i64 lo w A n c xs) (hn : n ≤ 65536) :
    Calls Try.prog 18 #[.slice A n c] w fun e w' => ∃ A' c', e = .returned (.slice A' n c') ∧ IS .i64 w.heap.size w' A' n c' xs ∧ Below w.heap.size w w' := by
  rcases A with _ | ad
  · obtain rfl := h.nil_ rfl
    obtain rfl : n = 0 := by have := h.cap; omega
    obtain rfl := h.empty_
    clear h hn
    have hq := fun W => Lib.run_eql_slice_nil (P := Try.prog) W 22 3 none 0 0 0 0 Try.underlying22
    go_enter Try.func18, Try.ntmps18
    go_wp2
    go_ret
    exact ⟨_, _, rfl, IS.none_ _ _ _, Below.refl _ _⟩
  · obtain ⟨i0, hi, hz0, hz1, hz2⟩ := info_parts int_info
    have hown : (w.alloc (.cells #[] 3)).ownsRow w.heap.size 3 1 (.slice (some ⟨w.heap.size, 0, none⟩) 0 0) 0 (([] : List Int).map (iv .i64)) := World.ownsRow_lit w #[] 0 (Nat.le_refl _) (by unfold maxLen; omega) rfl
    have K0 := below_alloc w (.cells #[] 3)
    obtain ⟨A', c', w1, hap, O1, G1, _⟩ := run_append_onto (P := Try.prog) Try.underlying22 hi hz0 hz1 hz2 hown (h.below K0) (by omega) K0.size 22
    have K1 : Below w.heap.size w w1 := K0.grown G1 K0.size (by intro k hk; simp [Value.ownBlock] at hk; omega)
    rw [Nat.zero_add] at hap O1
    have HO := Lib.hid O1
    have HA := Lib.hid hap
    clear O1 G1 hown hi hz0 hz1 hz2 hap
    have hq := fun W => Lib.run_eql_slice_nil (P := Try.prog) W 22 3 (some ad) n c 0 0 Try.underlying22
    go_enter Try.func18, Try.ntmps18
    go_wp2_with (at_builtin; refine wpList_append_run rfl (.tmp 5) (.tmp 6) 22 rfl _ _ _ _ rfl rfl HA.out ?_)
    go_ret
    obtain ⟨A2, c2, e2, hI⟩ := IS.of_own HO.out
    injection e2 with e2 _ e3
    subst e2; subst e3
    exact ⟨_, _, rfl, hI, K1⟩
end Go.Proofs.Ytlaihgcpaiocpaa
