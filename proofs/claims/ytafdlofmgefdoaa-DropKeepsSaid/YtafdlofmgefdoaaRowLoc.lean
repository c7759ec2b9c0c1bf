/-
  A row of the call's own among what a call knows of its memory (Loc): known with its room, so that one may be appended; what does not lie in it stays. Conditions: at most 65536 numbers.
-/
import Derived.Test.YtafdlofmgefdoaaClaimFits
namespace Go.Proofs.Ytafdlofmgefdoaa
open Go.RowKit
set_option linter.unusedVariables false
/-- A row of the call's own: a value that reads as these numbers, in blocks from base on. -/
def Ri (k : IntKind) (t : TypeId) (w : World) (base : Nat) (v : Value) (n : Nat) (xs : List Int) : Prop := w.ownsRow base t 1 v n (xs.map (iv k))
section
variable {k k' : IntKind} {t : TypeId} {w w' w1 : World} {base n c lo lo' n' c' : Nat} {A A' : Option Addr} {v : Value} {xs xs' : List Int}
theorem Ri.nil (w : World) (base : Nat) : Ri k t w base (.slice none 0 0) 0 [] := World.ownsRow_nil w base t 1
theorem Ri.below (h : Ri k t w base v n xs) (K : Below w.heap.size w w') : Ri k t w' base v n xs := own_below h K
theorem Ri.is (h : Ri k t w base (.slice A n c) n xs) : IS k base w A n c xs := by
  obtain ⟨A', c', e, I⟩ := IS.of_own h
  injection e with e1 e2 e3
  subst e1; subst e3
  exact I
theorem Ri.len (h : Ri k t w base v n xs) : xs.length = n := by have := h.1; simpa using this
theorem Ri.lt_ (h : Ri k t w base v n xs) : ∀ g, v.ownBlock = some g → base ≤ g ∧ g < w.heap.size := World.ownsRow.lt h
theorem Ri.lower (h : Ri k t w base v n xs) (hl : lo ≤ base) : Ri k t w lo v n xs := by
  refine ⟨h.1, ?_⟩
  rcases h.2 with h2 | ⟨g, cap, cur, hv, hg, r⟩
  · exact .inl h2
  · exact .inr ⟨g, cap, cur, hv, Nat.le_trans hl hg, r⟩
theorem Ri.keep (h : Ri k t w base v n xs) (hk : ∀ b, v.ownBlock = some b → b < w.heap.size → w'.heap[b]? = w.heap[b]?) : Ri k t w' base v n xs := by
  refine ⟨h.1, ?_⟩
  rcases h.2 with h2 | ⟨g, cap, cur, hv, hg, hh, r⟩
  · exact .inl h2
  · exact .inr ⟨g, cap, cur, hv, hg, (hk g (by rw [hv]; rfl) (lt_of_block hh)).trans hh, r⟩
def rF (k : IntKind) (t : TypeId) (base : Nat) (A : Option Addr) (n c : Nat) (xs : List Int) : Fct := ⟨fun w => Ri k t w base (.slice A n c) n xs, fun b => (Value.slice A n c).ownBlock = some b⟩
theorem rF_ok : (rF k t base A n c xs).Ok := ⟨fun w w' h hs hk => Ri.keep h fun b e hb => hk b hb e, fun w b h e => (Ri.lt_ h b e).2⟩
/-- The row doesn't lie where the fact does. -/
def SepF (v : Value) (f : Fct) : Prop := ∀ b, v.ownBlock = some b → ¬ f.F b
def SepL (v : Value) (fs : List Fct) : Prop := ∀ f, f ∈ fs → SepF v f
theorem SepL.nil : SepL v [] := fun f h => by cases h
theorem SepL.cons {f : Fct} {fs : List Fct} (h : SepF v f) (hs : SepL v fs) : SepL v (f :: fs) := fun g hg => by
  rcases List.mem_cons.1 hg with rfl | hg
  · exact h
  · exact hs g hg
theorem SepF.z : SepF v (zF lo) := fun _ _ h => h
theorem Ri.sep_old (h : Ri k t w base v n xs) (I : IS k' lo w1 A n' c xs') (hw : w1.heap.size ≤ base) : SepF v (iF k' lo' A n' c xs') := fun b hb hf => by
  obtain ⟨hn, o, e⟩ := hf
  obtain ⟨b', o', e', _, hl, _⟩ := I.cells hn
  have := (h.lt_ b hb).1
  rw [e] at e'; injection e' with e'; injection e' with e1 e2; omega
theorem Ri.sep_new (h : Ri k t w base v n xs) (I : IS k' lo w1 A n' c xs') (hw : w.heap.size ≤ lo) : SepF v (iF k' lo' A n' c xs') := fun b hb hf => by
  obtain ⟨hn, o, e⟩ := hf
  obtain ⟨b', o', e', hl, _, _⟩ := I.cells hn
  have := (h.lt_ b hb).2
  rw [e] at e'; injection e' with e'; injection e' with e1 e2; omega
theorem Ri.sep_cells {g : Nat} {ys : List Nat} (h : Ri k t w base v n xs) (hw : w.heap.size ≤ g) : SepF v (uF (some ⟨g, 0, none⟩) n' c ys) := fun b hb hf => by
  obtain ⟨hn, o, e⟩ := hf
  have := (h.lt_ b hb).2
  injection e with e; injection e with e1 e2; omega
end
section
variable {w0 w : World} {bs : List Bl} {fs : List Fct} {k : IntKind} {t e : TypeId} {base n c : Nat} {A : Option Addr} {xs : List Int}
theorem Loc.ri_new (L : Loc w0 w bs fs) (hl : ∀ i b, nth bs i = some b → b.1 < base) (hR : Ri k t w base (.slice A n c) n xs) : Loc w0 w bs (rF k t base A n c xs :: fs) :=
  L.add _ hR rF_ok fun i b e hf => by
    have := (hR.lt_ _ hf).1
    have := hl i b e
    omega
theorem Loc.ri_ (L : Loc w0 w bs fs) (j : Nat) (e : nth fs j = some (rF k t base A n c xs)) : Ri k t w base (.slice A n c) n xs := L.get j e
/-- One number, just laid, appended to a row of the call's own. -/
theorem Loc.app1 {P : Program} {i : TypeInfo} {x : Int} (L : Loc w0 w bs (rF k e base A n c xs :: fs)) (hsep : SepL (.slice A n c) fs) (hb : w0.heap.size ≤ base) (hn : n + 1 ≤ 65536) (hbw : base ≤ w.heap.size)
    (ht : P.underlying t = some (.slice e)) (hi : P.info? e = some i) (hz : i.zero = some (.int k 0)) (hsize : i.size = 1) (hby : i.bytes = 8) (ty : TypeId) :
    ∃ A' c' w', (Builtin.append_ #[t, t] ty #[.slice A n c, .slice (some ⟨w.heap.size, 0, none⟩) 1 1]).run P (w.alloc (.cells #[.int k x] e)) = .ok (.slice A' (n + 1) c') w' ∧ Loc w0 w' bs (rF k e base A' (n + 1) c' (xs ++ [x]) :: fs) := by
  have hR : Ri k e w base (.slice A n c) n xs := L.get 0 rfl
  have hD := (L.fc _ (List.mem_cons_self ..)).2.2
  have K0 := below_alloc w (.cells #[.int k x] e)
  have hs := gone (k := k) (w := w.alloc (.cells #[.int k x] e)) (x := x) (g := w.heap.size) (cell_new w _ _) (by unfold maxLen; omega)
  obtain ⟨A', c', w', hrun, hown, hg, hob⟩ := run_append_onto ht hi hz hsize hby (hR.below K0) hs hn (Nat.le_trans hbw K0.size) ty
  have hstay : ∀ b, b < w.heap.size → (Value.slice A n c).ownBlock ≠ some b → w'.heap[b]? = w.heap[b]? := fun b hb' hne =>
    (hg.block b (Nat.lt_of_lt_of_le hb' K0.size) (fun e => hne e.symm)).trans (K0.block b hb')
  refine ⟨A', c', w', hrun, ?_, fun i b eb => ⟨?_, (L.bk i b eb).2⟩, L.ne, fun f hf => ?_⟩
  · exact (Below.then_ L.K K0).grown hg (Nat.le_trans L.K.size K0.size) (fun j hj => Nat.le_trans hb (hR.lt_ j hj).1)
  · exact (hstay b.1 (L.lts i b eb) (hD i b eb)).trans (L.bk i b eb).1
  · rcases List.mem_cons.1 hf with rfl | hf
    · refine ⟨hown, rF_ok, fun i b eb hF => ?_⟩
      have hlt := L.lts i b eb
      rcases hob with h1 | h1
      · exact hD i b eb (h1.symm.trans hF)
      · have h2 := h1.symm.trans hF
        injection h2 with h2
        have := K0.size
        omega
    · obtain ⟨p, ok, d⟩ := L.fc f (List.mem_cons_of_mem _ hf)
      exact ⟨ok.keep _ _ p (Nat.le_trans K0.size hg.size) (fun b hb' hF => hstay b hb' fun e => hsep f hf b e hF), ok, d⟩
theorem lists_row {lo n1 c1 n3 c3 : Nat} {A0 A1 A3 : Option Addr} {n0 c0 : Nat} {rqs ads ses : List Int} (h0 : IS .u32 lo w A0 n0 c0 rqs) (h1 : IS .u32 lo w A1 n1 c1 ads) (h2 : Ri .i64 t w lo (.slice A n c) n xs) (h3 : IS .u64 lo w A3 n3 c3 ses) : Lists lo w ⟨A0, n0, c0, A1, n1, c1, A, n, c, A3, n3, c3⟩ ⟨rqs, ads, xs, ses⟩ := ⟨h0, h1, h2.is, h3⟩
/-- A call's cells: in new memory, or those that were handed in. -/
theorem Loc.us_new {w1 : World} {B B0 : Option Addr} {m d d0 : Nat} {ys ys0 : List Nat} (h : Loc w0 w bs fs) (hs : ∀ g, g ∈ bs.map (·.1) → g < w1.heap.size) (hA : ∀ k, k < w1.heap.size → Apart k B0 → Apart k B) (hU0 : US w0 B0 m d0 ys0) (hm0 : 0 < m) (hU : US w B m d ys) : Loc w0 w bs (uF B m d ys :: fs) :=
  h.us_av (fun i b e => hA b.1 (hs b.1 (nth_map e)) (hU0.apart0 hm0 h i b e)) hU
end
/-- What slices.Clone answers, as a row of the call's own. -/
theorem run_clone_row {P : Program} {k : IntKind} {t e : TypeId} {i : TypeInfo} {w : World} {lo : Nat} {ad : Addr} {n c : Nat} {xs : List Int} (ht : P.underlying t = some (.slice e)) (hi : P.info? e = some i) (hz : i.zero = some (.int k 0)) (hsize : i.size = 1) (hby : i.bytes ≤ 8)
    (h : IS k lo w (some ad) n c xs) (hn : n ≤ 65536) (ty : TypeId) :
    ∃ A' c' w', (Builtin.append_ #[t, t] ty #[.slice (some ⟨w.heap.size, 0, none⟩) 0 0, .slice (some ad) n c]).run P (w.alloc (.cells #[] e)) = .ok (.slice A' n c') w' ∧ Ri k e w' w.heap.size (.slice A' n c') n xs ∧ Below w.heap.size w w' := by
  have hl := h.len
  have K := below_alloc w (.cells #[] e)
  have h' := h.below K
  have hcells : ∀ j u, (xs.map (iv k))[j]? = some u → (w.alloc (.cells #[] e)).cell? (ad.add j) = some u := by
    intro j u hu
    rcases Nat.eq_zero_or_pos n with h0 | h0
    · subst h0
      obtain rfl : xs = [] := List.eq_nil_of_length_eq_zero hl
      simp at hu
    · obtain ⟨ad', e', hc⟩ := h'.src h0
      injection e' with e'
      subst e'
      exact hc j u hu
  have hown := World.ownsRow_lit (base := w.heap.size) (size := 1) (e := e) w #[] 0 (Nat.le_refl _) (by unfold maxLen; omega) rfl
  have hb : n * i.bytes ≤ 140737488355328 := Nat.le_trans (Nat.mul_le_mul hn hby) (by omega)
  obtain ⟨v', w', hrun, h2, h3, _⟩ := run_append_own_at (P := P) (w.alloc (.cells #[] e)) w.heap.size t ty e i _ 1 i.bytes ht hi hz hsize rfl rfl (by omega) _ 0 [] hown ad n c (xs.map (iv k)) (by simp [hl]) hcells (iv_one k xs) (by unfold maxLen; omega) (by simpa using hb) (by simp)
  rw [List.nil_append, Nat.zero_add] at h2
  have h2' := h2
  obtain ⟨A', c', rfl, hI⟩ := IS.of_own h2
  exact ⟨A', c', w', hrun, h2', K.grown h3 (by simp) (by intro j hj; cases hj; exact Nat.le_refl _)⟩
def RetR (k : IntKind) (t : TypeId) (n : Nat) (xs : List Int) (w : World) (e : Ending) (w' : World) : Prop := ∃ A c, e = .returned (.slice A n c) ∧ Ri k t w' w.heap.size (.slice A n c) n xs ∧ Below w.heap.size w w'
set_option maxHeartbeats 400000 in
theorem cloneE_row {w : World} {lo : Nat} {A : Option Addr} {n c : Nat} {xs : List Int} (h : IS .i64 lo w A n c xs) (hn : n ≤ 65536) :
    Calls Try.prog 39 #[.slice A n c] w (RetR .i64 36 n xs w) := by
  obtain ⟨i0, hi, hz0, hz1, hz2⟩ := info_parts cloneE_info
  have q : ∀ (w : World) (a : Option Addr) (n c n' c' : Nat), (binOp .eql 37 (.slice a n c) (.slice none n' c')).run Try.prog w = .ok (.bool a.isNone) w := fun w a n c n' c' => Lib.run_eql_slice_nil w _ _ a n c n' c' Try.underlying37
  rcases A with _ | ad
  · obtain rfl := h.nil_ rfl
    obtain rfl : n = 0 := by have := h.cap; omega
    obtain rfl : xs = [] := List.eq_nil_of_length_eq_zero h.len
    go_enter Try.func39, Try.ntmps39
    go_wp2
    go_ret
    exact ⟨_, _, rfl, Ri.nil _ _, Below.refl _ _⟩
  · have hr := fun ty => run_clone_row (P := Try.prog) Try.underlying37 hi hz0 hz1 (by omega) h hn ty
    clear hz0 hz1 hz2
    go_enter Try.func39, Try.ntmps39
    obtain ⟨A', c', w', hrun, hI, K⟩ := hr 37
    go_wp2_with (at_builtin; refine wpList_append_run rfl (.tmp 5) (.tmp 6) _ rfl _ _ _ _ rfl rfl hrun ?_)
    go_ret
    exact ⟨_, _, rfl, hI, K⟩
end Go.Proofs.Ytafdlofmgefdoaa
