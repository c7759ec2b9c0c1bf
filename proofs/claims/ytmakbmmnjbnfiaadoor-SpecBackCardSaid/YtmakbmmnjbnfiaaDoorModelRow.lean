/-
  Rows of integers of the call's own: one more appended, a list appended, one made by appending where there is no room. Conditions: at most 65536 numbers.
-/
import Derived.Test.YtmakbmmnjbnfiaaDoorModelMath
namespace Go.Proofs.YtmakbmmnjbnfiaaDoor
open Go.RowKit
theorem int_info : (Tryd.prog.info? 3).map (fun i => (i.zero, i.size, i.bytes)) = some (some (Value.int .i64 0), 1, 8) := by kernel_rfl
theorem u32_info : (Tryd.prog.info? 22).map (fun i => (i.zero, i.size, i.bytes)) = some (some (Value.int .u32 0), 1, 4) := by kernel_rfl
/-- A row of the call's own: a value that reads as these numbers, in blocks from base on. -/
def Ri (k : IntKind) (t : TypeId) (w : World) (base : Nat) (v : Value) (n : Nat) (xs : List Int) : Prop := w.ownsRow base t 1 v n (xs.map (iv k))
section
variable {k : IntKind} {t : TypeId} {w w' : World} {base n c : Nat} {A : Option Addr} {v : Value} {xs : List Int}
theorem Ri.nil (w : World) (base : Nat) : Ri k t w base (.slice none 0 0) 0 [] := World.ownsRow_nil w base t 1
theorem Ri.below (h : Ri k t w base v n xs) (K : Below w.heap.size w w') : Ri k t w' base v n xs := own_below h K
theorem Ri.is (h : Ri k t w base (.slice A n c) n xs) : IS k base w A n c xs := by
  obtain ⟨A', c', e, I⟩ := IS.of_own h
  injection e with e1 e2 e3
  subst e1; subst e3
  exact I
theorem Ri.len (h : Ri k t w base v n xs) : xs.length = n := by have := h.1; simpa using this
end
section
variable {P : Program} {k : IntKind} {t e : TypeId} {i : TypeInfo}
/-- append onto a row of the call's own, whatever its numbers' bytes. -/
theorem run_app {w : World} {base lo : Nat} {B : Option Addr} {m d : Nat} {ys : List Int} {A : Option Addr} {n c : Nat} {xs : List Int} (ht : P.underlying t = some (.slice e)) (hi : P.info? e = some i) (hz : i.zero = some (.int k 0)) (hsize : i.size = 1) (hby : i.bytes ≤ 8)
    (hown : Ri k e w base (.slice B m d) m ys) (h : IS k lo w A n c xs) (hn : m + n ≤ 65536) (hbase : base ≤ w.heap.size) (ty : TypeId) :
    ∃ A' c' w', (Builtin.append_ #[t, t] ty #[.slice B m d, .slice A n c]).run P w = .ok (.slice A' (m + n) c') w' ∧ Ri k e w' base (.slice A' (m + n) c') (m + n) (ys ++ xs) ∧ Below base w w' := by
  have hl := h.len
  rcases A with _ | ad
  · obtain rfl := h.nil_ rfl
    obtain rfl : n = 0 := by have := h.cap; omega
    obtain rfl : xs = [] := List.eq_nil_of_length_eq_zero hl
    have hr := run_append_owned_none (P := P) w base t ty e i 1 ht hi _ m (ys.map (iv k)) hown
    exact ⟨B, d, w, hr, by rw [List.append_nil]; exact hown, Below.refl _ _⟩
  · have hcells : ∀ j u, (xs.map (iv k))[j]? = some u → w.cell? (ad.add j) = some u := by
      intro j u hu
      rcases Nat.eq_zero_or_pos n with h0 | h0
      · subst h0
        obtain rfl : xs = [] := List.eq_nil_of_length_eq_zero hl
        simp at hu
      · obtain ⟨ad', e', hc⟩ := h.src h0
        injection e' with e'
        subst e'
        exact hc j u hu
    have hb : (m + n) * i.bytes ≤ 140737488355328 := Nat.le_trans (Nat.mul_le_mul hn hby) (by omega)
    obtain ⟨v', w', hrun, h2, h3, _, h5⟩ := run_append_own_at (P := P) w base t ty e i _ 1 i.bytes ht hi hz hsize rfl rfl (by omega) _ m (ys.map (iv k)) hown ad n c (xs.map (iv k)) (by simp [hl]) hcells (iv_one k xs) (by unfold maxLen; omega) hb hbase
    rw [← List.map_append] at h2
    obtain ⟨A', c', rfl, _⟩ := IS.of_own h2
    exact ⟨A', c', w', hrun, h2, (Below.refl _ _).grown h3 hbase (own_ge hown)⟩
/-- append of one number that has just been laid. -/
theorem run_app1 {w : World} {base : Nat} {B : Option Addr} {m d : Nat} {ys : List Int} {x : Int} (ht : P.underlying t = some (.slice e)) (hi : P.info? e = some i) (hz : i.zero = some (.int k 0)) (hsize : i.size = 1) (hby : i.bytes ≤ 8)
    (hown : Ri k e w base (.slice B m d) m ys) (hn : m + 1 ≤ 65536) (hbase : base ≤ w.heap.size) (ty : TypeId) :
    ∃ A' c' w', (Builtin.append_ #[t, t] ty #[.slice B m d, .slice (some ⟨w.heap.size, 0, none⟩) 1 1]).run P (w.alloc (.cells #[.int k x] e)) = .ok (.slice A' (m + 1) c') w' ∧ Ri k e w' base (.slice A' (m + 1) c') (m + 1) (ys ++ [x]) ∧ Below base w w' := by
  have K0 := below_alloc w (.cells #[.int k x] e)
  have hs := gone (k := k) (w := w.alloc (.cells #[.int k x] e)) (x := x) (g := w.heap.size) (cell_new w _ _) (by unfold maxLen; omega)
  obtain ⟨A', c', w', hr, O, G⟩ := run_app ht hi hz hsize hby (hown.below K0) hs hn (Nat.le_trans hbase K0.size) ty
  exact ⟨A', c', w', hr, O, (K0.mono hbase).trans G⟩
/-- append of one number, just laid, where there is no room: a row of the call's own. -/
theorem run_full1 {w : World} {lo : Nat} {A : Option Addr} {n : Nat} {xs : List Int} {x : Int} (ht : P.underlying t = some (.slice e)) (hi : P.info? e = some i) (hz : i.zero = some (.int k 0)) (hsize : i.size = 1) (hby : i.bytes ≤ 8)
    (h : IS k lo w A n n xs) (hn : n + 1 ≤ 65536) (ty : TypeId) :
    ∃ A' c' w', (Builtin.append_ #[t, t] ty #[.slice A n n, .slice (some ⟨w.heap.size, 0, none⟩) 1 1]).run P (w.alloc (.cells #[.int k x] e)) = .ok (.slice A' (n + 1) c') w' ∧ Ri k e w' w.heap.size (.slice A' (n + 1) c') (n + 1) (xs ++ [x]) ∧ Below w.heap.size w w' := by
  have hl := h.len
  rcases A with _ | b
  · obtain rfl := h.nil_ rfl
    obtain rfl : xs = [] := List.eq_nil_of_length_eq_zero hl
    exact run_app1 ht hi hz hsize hby (Ri.nil w w.heap.size) hn (Nat.le_refl _) ty
  · have K0 := below_alloc w (.cells #[.int k x] e)
    have hs := gone (k := k) (w := w.alloc (.cells #[.int k x] e)) (x := x) (g := w.heap.size) (cell_new w _ _) (by unfold maxLen; omega)
    have h' := h.below K0
    obtain ⟨ad, e1, hsrc⟩ := hs.src (by omega)
    injection e1 with e1
    subst e1
    have hold : ∀ j u, (xs.map (iv k))[j]? = some u → (w.alloc (.cells #[.int k x] e)).cell? (b.add j) = some u := by
      intro j u hu
      rcases Nat.eq_zero_or_pos n with h0 | h0
      · subst h0
        obtain rfl : xs = [] := List.eq_nil_of_length_eq_zero hl
        simp at hu
      · obtain ⟨ad', e', hc⟩ := h'.src h0
        injection e' with e'
        subst e'
        exact hc j u hu
    have hb : (n + 1) * i.bytes ≤ 140737488355328 := Nat.le_trans (Nat.mul_le_mul hn hby) (by omega)
    obtain ⟨v', w', hrun, hown, hg⟩ := run_append_arg_grows (P := P) (w.alloc (.cells #[.int k x] e)) t ty e i _ 1 i.bytes ht hi hz hsize rfl rfl (by omega) b n n (xs.map (iv k)) (by simp [hl]) hold _ 1 1 ([x].map (iv k)) rfl hsrc (by omega) (by unfold maxLen; omega) hb
    rw [← List.map_append] at hown
    obtain ⟨A', c', rfl, hI⟩ := IS.of_own hown
    refine ⟨A', c', w', hrun, ?_, Below.then_ K0 ((Below.refl _ _).grown hg (Nat.le_refl _) (by simp))⟩
    refine ⟨hown.1, ?_⟩
    rcases hown.2 with g | ⟨g, cap, cur, hv, hg, r⟩
    · exact .inl g
    · exact .inr ⟨g, cap, cur, hv, Nat.le_trans K0.size hg, r⟩
end
end Go.Proofs.YtmakbmmnjbnfiaaDoor

