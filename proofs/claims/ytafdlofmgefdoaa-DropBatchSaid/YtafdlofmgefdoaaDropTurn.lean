/-
  A batch that gives addresses back, as functions of numbers and lists; a row of the call's own that is written into, one more number appended whatever its bytes. No condition on the program.
-/
import Derived.Test.YtafdlofmgefdoaaDropAwake
namespace Go.Proofs.Ytafdlofmgefdoaa
open Go.RowKit
set_option linter.unusedVariables false
/-- The offset of the j-th address; the first k addresses. -/
def ofB (M : Nat) (zs : List Int) (j : Nat) : Nat := (gi zs j).toNat % M
def adB (a M : Nat) (zs : List Int) (k : Nat) : List Int := (List.range k).map fun j => ((a + ofB M zs j : Nat) : Int)
/-- The cells, when k addresses are given back; what the first k are answered. -/
def clB (M : Nat) (zs : List Int) (ys : List Nat) : Nat → List Nat
  | 0 => ys
  | k + 1 => if (gt (clB M zs ys k) (ofB M zs k / 32)).testBit (ofB M zs k % 32) = true then (clB M zs ys k).set (ofB M zs k / 32) (drp (gt (clB M zs ys k) (ofB M zs k / 32)) (ofB M zs k % 32)) else clB M zs ys k
def erB (M : Nat) (zs : List Int) (ys : List Nat) (k : Nat) : List Int := (List.range k).map fun j => if (gt (clB M zs ys j) (ofB M zs j / 32)).testBit (ofB M zs j % 32) = true then 0 else 6
section
variable {a M N : Nat} {zs : List Int} {ys : List Nat}
theorem adB_succ (k : Nat) : adB a M zs (k + 1) = adB a M zs k ++ [((a + ofB M zs k : Nat) : Int)] := by
  unfold adB; rw [List.range_succ, List.map_append]; rfl
theorem adB_at {j k : Nat} (h : j < k) : gi (adB a M zs k) j = ((a + ofB M zs j : Nat) : Int) := by
  unfold gi adB; simp [List.getD_eq_getElem?_getD, h]
theorem adB_in {p : Int} (hM : Much a p M) (k : Nat) : InB a M k (adB a M zs k) := fun i hi => ⟨a + ofB M zs i, adB_at hi, by omega, by have := Nat.mod_lt (gi zs i).toNat hM.pos; unfold ofB; omega⟩
theorem erB_yes {k : Nat} (h : (gt (clB M zs ys k) (ofB M zs k / 32)).testBit (ofB M zs k % 32) = true) : erB M zs ys (k + 1) = erB M zs ys k ++ [0] := by
  unfold erB; rw [List.range_succ, List.map_append]; simp [h]
theorem erB_no {k : Nat} (h : (gt (clB M zs ys k) (ofB M zs k / 32)).testBit (ofB M zs k % 32) = false) : erB M zs ys (k + 1) = erB M zs ys k ++ [6] := by
  unfold erB; rw [List.range_succ, List.map_append]; simp [h]
theorem erB_at {j k : Nat} (h : j < k) : gi (erB M zs ys k) j = if (gt (clB M zs ys j) (ofB M zs j / 32)).testBit (ofB M zs j % 32) = true then 0 else 6 := by
  unfold gi erB; simp [List.getD_eq_getElem?_getD, h]
theorem clB_yes {k : Nat} (h : (gt (clB M zs ys k) (ofB M zs k / 32)).testBit (ofB M zs k % 32) = true) : clB M zs ys (k + 1) = (clB M zs ys k).set (ofB M zs k / 32) (drp (gt (clB M zs ys k) (ofB M zs k / 32)) (ofB M zs k % 32)) := if_pos h
theorem clB_no {k : Nat} (h : (gt (clB M zs ys k) (ofB M zs k / 32)).testBit (ofB M zs k % 32) = false) : clB M zs ys (k + 1) = clB M zs ys k := if_neg (by rw [h]; exact Bool.false_ne_true)
theorem clB_len : ∀ k, (clB M zs ys k).length = ys.length
  | 0 => rfl
  | k + 1 => by
    unfold clB
    split
    · rw [List.length_set, clB_len k]
    · exact clB_len k
theorem clB_fit (hf : ∀ x ∈ ys, x < U64) : ∀ k, ∀ x ∈ clB M zs ys k, x < U64
  | 0 => hf
  | k + 1 => by
    unfold clB
    split
    · exact fit_set (clB_fit hf k) _ (drp_lt _ _)
    · exact clB_fit hf k
/-- The operation that reads, or drops, at the j-th address; what it is behind that. -/
def sR (lf bt j : Nat) : Sc := ⟨4, 0, 0, 0, false, 8, 0, 0, (lf : Int), (bt : Int), 0, false, 0, 0, (j : Int), 0⟩
def sD (lf bt j x : Nat) : Sc := ⟨4, 0, 0, 0, false, 9, 0, 0, (lf : Int), (bt : Int), x, false, 0, 0, (j : Int), 0⟩
def sM (lf bt j : Nat) : Sc := ⟨4, 0, 0, 0, false, 4, 0, 0, (lf : Int), (bt : Int), 0, false, 0, 0, (j : Int), 0⟩
def nxB (N M : Nat) (zs : List Int) (j lf bt : Nat) : Sc := if j + 1 < N then sR (ofB M zs (j + 1) / 32) (ofB M zs (j + 1) % 32) (j + 1) else ⟨4, 0, 0, 0, false, 0, 0, 0, (lf : Int), (bt : Int), 0, false, 0, 0, (j : Int), 0⟩
theorem gon_nx {ph : Int} {lf bt j x : Nat} : gon a N (adB a M zs N) ⟨4, 0, 0, 0, false, ph, 0, 0, (lf : Int), (bt : Int), x, false, 0, 0, (j : Int), 0⟩ = nxB N M zs j lf bt := by
  unfold gon nxB
  by_cases hj : j + 1 < N
  · have hf : fur N ⟨4, 0, 0, 0, false, ph, 0, 0, (lf : Int), (bt : Int), x, false, 0, 0, (j : Int), 0⟩ = true := by unfold fur; simp; omega
    rw [if_pos hf, if_pos hj]
    have e : ofs a (adB a M zs N) (j + 1) = ofB M zs (j + 1) := by unfold ofs; rw [adB_at hj, Int.toNat_natCast]; omega
    unfold next_ sR
    simp only [Int.toNat_natCast, e]
    rfl
  · have hf : fur N ⟨4, 0, 0, 0, false, ph, 0, 0, (lf : Int), (bt : Int), x, false, 0, 0, (j : Int), 0⟩ = false := by unfold fur; simp; omega
    rw [if_neg (by rw [hf]; exact Bool.false_ne_true), if_neg hj]
    rfl
theorem free_nx {lf bt j : Nat} : freeS a N (adB a M zs N) (sR lf bt j) = nxB N M zs j lf bt := gon_nx (ph := 8) (x := 0)
theorem hit_nx {lf bt j x : Nat} (h : fl x = false) : hitS a N (adB a M zs N) (sD lf bt j x) = nxB N M zs j lf bt := by
  unfold hitS
  rw [if_neg (by show ¬ fl x = true; rw [h]; exact Bool.false_ne_true)]
  exact gon_nx (ph := 9) (x := x)
theorem hit_em {lf bt j x : Nat} (h : fl x = true) : hitS a N (adB a M zs N) (sD lf bt j x) = sM lf bt j := by
  unfold hitS
  rw [if_pos (show fl (sD lf bt j x).word = true from h)]
  rfl
theorem nx_ph {j lf bt : Nat} : ((nxB N M zs j lf bt).phase == 4) = false := by
  unfold nxB; split <;> rfl
/-- How far the batch is, behind t steps. -/
def StB (N M : Nat) (zs : List Int) (ys : List Nat) (s : Sc) (j t : Nat) : Prop :=
  (j < N ∧ s = sR (ofB M zs j / 32) (ofB M zs j % 32) j ∧ t ≤ 2 * j) ∨ (j < N ∧ s = sD (ofB M zs j / 32) (ofB M zs j % 32) j (gt (clB M zs ys j) (ofB M zs j / 32)) ∧ (gt (clB M zs ys j) (ofB M zs j / 32)).testBit (ofB M zs j % 32) = true ∧ t ≤ 2 * j + 1) ∨ (j = N ∧ s.phase = 0 ∧ t ≤ 2 * N)
theorem st_nx {j lf bt t : Nat} (hj : j < N) (ht : t ≤ 2 * j + 1) : StB N M zs ys (nxB N M zs j lf bt) (j + 1) (t + 1) := by
  unfold nxB
  by_cases h : j + 1 < N
  · rw [if_pos h]; exact .inl ⟨h, rfl, by omega⟩
  · rw [if_neg h]; exact .inr (.inr ⟨by omega, rfl, by omega⟩)
end
/-- A block that is known whole, in memory that is new. -/
theorem Loc.own {w0 w w' : World} {bs : List Bl} {fs : List Fct} {g : Nat} {t : TypeId} {l : Array Value} (h : Loc w0 w bs fs) (K' : Below w.heap.size w w') (hg : w.heap.size ≤ g) (hB : Bk w' g t l) : Loc w0 w' ((g, t, l) :: bs) fs := by
  have h' := h.over K'
  refine ⟨h'.K, fun i b e => ?_, fun i j b b' e e' hij => ?_, fun f e => ?_⟩
  · match i, e with
    | 0, e => injection e with e; subst e; exact ⟨hB, Nat.le_trans h.K.size hg⟩
    | i + 1, e => exact h'.bk i b e
  · match i, j, e, e', hij with
    | 0, 0, _, _, hij => exact absurd rfl hij
    | 0, j + 1, e, e', _ =>
      injection e with e; subst e
      have := h.lts j b' e'
      show g ≠ b'.1
      omega
    | i + 1, 0, e, e', _ =>
      injection e' with e'; subst e'
      have := h.lts i b e
      show b.1 ≠ g
      omega
    | i + 1, j + 1, e, e', hij => exact h'.ne i j b b' e e' (by omega)
  · obtain ⟨p, ok, d⟩ := h'.fc f e
    refine ⟨p, ok, fun i b e' => ?_⟩
    match i, e' with
    | 0, e' =>
      injection e' with e'; subst e'
      intro hf
      have := ok.inb _ _ (h.fc f e).1 hf
      simp at this
      omega
    | i + 1, e' => exact d i b e'
/-- A block holds these words ahead of its room. -/
def Cw (cw : Array Value) (n : Nat) (xs : List Nat) : Prop := ∀ j, j < n → cw[j]? = some (.int .u64 (gt xs j : Nat))
theorem own_block {w : World} {base g n c : Nat} {t : TypeId} {xs : List Nat} (h : Own w base g n c t xs) : ∃ cw, Bk w g t cw ∧ Cw cw n xs ∧ n ≤ c ∧ c ≤ maxLen := by
  have hl : xs.length = n := by have := h.1; simpa using this
  have hc := fun (i : Nat) (hi : i < n) => Own.cell h hi
  rcases h.2 with ⟨hv, _⟩ | ⟨g', cap, cur, hv, hb, hh, hnc, hcm, hcs, ht⟩
  · cases hv
  · injection hv with h1 h2 h3
    injection h1 with h1
    injection h1 with h1
    subst h1; subst h3
    exact ⟨cur, hh, fun j hj => by rw [← hc j hj]; exact (cell_of_row w g j _ _ (0, 0) hh).symm, hnc, hcm⟩
theorem Cw.us {w : World} {g n c : Nat} {t : TypeId} {cw : Array Value} {xs : List Nat} (h : Cw cw n xs) (hB : Bk w g t cw) (hl : xs.length = n) (hf : ∀ x ∈ xs, x < U64) (hn : n ≤ c) (hc : c ≤ maxLen) : US w (some ⟨g, 0, none⟩) n c xs :=
  ⟨hl, hn, hc, (fun e => by cases e), hf, fun _ => ⟨g, 0, rfl, hB.lt, fun j hj => by rw [Nat.zero_add]; exact hB.at_ j (h j hj)⟩⟩
theorem Cw.set_ {n i v : Nat} {cw : Array Value} {xs : List Nat} (h : Cw cw n xs) (hl : xs.length = n) (hi : i < n) : Cw (cw.setIfInBounds i (.int .u64 (v : Nat))) n (xs.set i v) := fun j hj => by
  rw [Array.getElem?_setIfInBounds, gt_set (by omega)]
  by_cases e : i = j
  · subst e
    have := h i hi
    rw [if_pos rfl, if_pos rfl, if_pos (by rcases Nat.lt_or_ge i cw.size with h1 | h1; exact h1; rw [Array.getElem?_eq_none h1] at this; cases this)]
  · rw [if_neg e, if_neg e]
    exact h j hj
theorem oper_append_run {P : Program} {w : World} {o : Oper} {a : Act} {K : Act → World → Prop} {Q : Exit → Act → World → Prop} (s x : Operand) (t : TypeId)
    (ho : o.op = .call { callee := .builtin .append, args := #[s, x], argTypes := #[t, t] }) (u v v' : Value) (w' : World) (hs : a.eval s = u) (hx : a.eval x = v)
    (hrun : (Builtin.append_ #[t, t] o.type #[u, v]).run P w = .ok v' w') (h : K (a.put o.dst v') w') : Oper.wp P o a w K Q := by
  unfold Oper.wp
  simp [execOp, ho, resolve, invoke, builtin, hs, hx, hrun, Result.andThen]
  exact h
/-- A row of the call's own is a list that is read. -/
theorem Loc.ri_is {w0 w : World} {bs : List Bl} {fs : List Fct} {k : IntKind} {t : TypeId} {base n c : Nat} {A : Option Addr} {xs : List Int} (L : Loc w0 w bs fs) (j : Nat) (e : nth fs j = some (rF k t base A n c xs)) : Loc w0 w bs (iF k base A n c xs :: fs) := by
  have hR := L.ri_ j e
  have hD : ∀ i b, nth bs i = some b → ¬ (Value.slice A n c).ownBlock = some b.1 := (L.fc _ (nth_mem e)).2.2
  refine L.add _ hR.is (iF_ok _ _ _ _ _ _) fun i b eb => ?_
  rintro ⟨hn, o, hA⟩
  refine hD i b eb ?_
  rcases hR.2 with ⟨hv, _⟩ | ⟨g, cap, cur, hv, _⟩
  · injection hv with h1 h2 h3
    omega
  · have hv2 := hv
    injection hv with h1 h2 h3
    rw [hA] at h1
    injection h1 with h1
    injection h1 with h1 h1'
    rw [hv2, h1]; rfl
theorem u32_info : (Try.prog.info? 22).map (fun i => (i.zero, i.size, i.bytes)) = some (some (Value.int .u32 0), 1, 4) := by kernel_rfl
/-- One number, just laid, appended to a row of the call's own, whatever its bytes. -/
theorem Loc.app1b {w0 w : World} {bs : List Bl} {fs : List Fct} {k : IntKind} {e : TypeId} {t : TypeId} {base n c : Nat} {A : Option Addr} {xs : List Int} {P : Program} {i : TypeInfo} {x : Int} (L : Loc w0 w bs (rF k e base A n c xs :: fs)) (hsep : SepL (.slice A n c) fs) (hb : w0.heap.size ≤ base) (hn : n + 1 ≤ 65536) (hbw : base ≤ w.heap.size)
    (ht : P.underlying t = some (.slice e)) (hi : P.info? e = some i) (hz : i.zero = some (.int k 0)) (hsize : i.size = 1) (hby : i.bytes ≤ 8) (ty : TypeId) :
    ∃ A' c' w', (Builtin.append_ #[t, t] ty #[.slice A n c, .slice (some ⟨w.heap.size, 0, none⟩) 1 1]).run P (w.alloc (.cells #[.int k x] e)) = .ok (.slice A' (n + 1) c') w' ∧ Loc w0 w' bs (rF k e base A' (n + 1) c' (xs ++ [x]) :: fs) := by
  have hR : Ri k e w base (.slice A n c) n xs := L.get 0 rfl
  have hD := (L.fc _ (List.mem_cons_self ..)).2.2
  have K0 := below_alloc w (.cells #[.int k x] e)
  have hs := gone (k := k) (w := w.alloc (.cells #[.int k x] e)) (x := x) (g := w.heap.size) (cell_new w _ _) (by unfold maxLen; omega)
  have hcells : ∀ j u, ([x].map (iv k))[j]? = some u → (w.alloc (.cells #[.int k x] e)).cell? ((⟨w.heap.size, 0, none⟩ : Addr).add j) = some u := by
    intro j u hu
    obtain ⟨ad', e', hc⟩ := hs.src (by omega)
    injection e' with e'
    subst e'
    exact hc j u hu
  have hb8 : (n + 1) * i.bytes ≤ 140737488355328 := Nat.le_trans (Nat.mul_le_mul hn hby) (by omega)
  obtain ⟨v', w', hrun, h2, hg, _, hob⟩ := run_append_own_at (P := P) (w.alloc (.cells #[.int k x] e)) base t ty e i _ 1 i.bytes ht hi hz hsize rfl rfl (by omega) _ n (xs.map (iv k)) (hR.below K0) ⟨w.heap.size, 0, none⟩ 1 1 ([x].map (iv k)) (by simp) hcells (iv_one k [x]) (by unfold maxLen; omega) hb8 (Nat.le_trans hbw K0.size)
  rw [← List.map_append] at h2
  have h2' := h2
  obtain ⟨A', c', rfl, _⟩ := IS.of_own h2
  have hstay : ∀ b, b < w.heap.size → (Value.slice A n c).ownBlock ≠ some b → w'.heap[b]? = w.heap[b]? := fun b hb' hne =>
    (hg.block b (Nat.lt_of_lt_of_le hb' K0.size) (fun e => hne e.symm)).trans (K0.block b hb')
  refine ⟨A', c', w', hrun, ?_, fun i b eb => ⟨?_, (L.bk i b eb).2⟩, L.ne, fun f hf => ?_⟩
  · exact (Below.then_ L.K K0).grown hg (Nat.le_trans L.K.size K0.size) (fun j hj => Nat.le_trans hb (hR.lt_ j hj).1)
  · exact (hstay b.1 (L.lts i b eb) (hD i b eb)).trans (L.bk i b eb).1
  · rcases List.mem_cons.1 hf with rfl | hf
    · refine ⟨h2', rF_ok, fun i b eb hF => ?_⟩
      have hlt := L.lts i b eb
      rcases hob with h1 | h1
      · exact hD i b eb (h1.symm.trans hF)
      · have h2 := h1.symm.trans hF
        injection h2 with h2
        have := K0.size
        omega
    · obtain ⟨p, ok, d⟩ := L.fc f (List.mem_cons_of_mem _ hf)
      exact ⟨ok.keep _ _ p (Nat.le_trans K0.size hg.size) (fun b hb' hF => hstay b hb' fun e => hsep f hf b e hF), ok, d⟩
end Go.Proofs.Ytafdlofmgefdoaa
