/-
  What the functions that these laws call answer, and what follows of it; conditions: those that each theorem names. In this file: Loc.
-/
import Derived.Test.YtacgjaohfcoigaaEx8
import Derived.Deep.WholeRow
/-
  Loc: what a call knows of its memory in one fact: nothing that was there is otherwise; the blocks of its own, each known whole, all unlike; lists and maps in memory that these blocks don't touch. One law for each thing that may befall. No condition on the program.
-/
namespace Go.Proofs.Ytacgjaohfcoigaa
set_option maxRecDepth 100000
open Go.RowKit
set_option linter.unusedVariables false
def nth {α : Type} : List α → Nat → Option α
  | [], _ => none
  | a :: _, 0 => some a
  | _ :: l, k + 1 => nth l k
def nput {α : Type} : List α → Nat → α → List α
  | [], _, _ => []
  | _ :: l, 0, b => b :: l
  | a :: l, k + 1, b => a :: nput l k b
theorem nth_nput {α : Type} {b : α} : ∀ {l : List α} {i j : Nat} {x : α}, nth (nput l i b) j = some x → (i = j ∧ x = b) ∨ (i ≠ j ∧ nth l j = some x)
  | [], i, j, x, h => by cases h
  | a :: l, 0, 0, x, h => by injection h with h; exact .inl ⟨rfl, h.symm⟩
  | a :: l, 0, j + 1, x, h => .inr ⟨by omega, h⟩
  | a :: l, i + 1, 0, x, h => .inr ⟨by omega, h⟩
  | a :: l, i + 1, j + 1, x, h => by
    rcases nth_nput (l := l) (i := i) (j := j) (by exact h) with ⟨h1, h2⟩ | ⟨h1, h2⟩
    · exact .inl ⟨by omega, h2⟩
    · exact .inr ⟨by omega, h2⟩
theorem nth_mem {α : Type} : ∀ {l : List α} {i : Nat} {x : α}, nth l i = some x → x ∈ l
  | [], i, x, h => by cases h
  | a :: l, 0, x, h => by injection h with h; subst h; exact List.mem_cons_self ..
  | a :: l, i + 1, x, h => List.mem_cons_of_mem _ (nth_mem (l := l) (i := i) h)
/-- A block: where it lies, its type, what it holds. -/
abbrev Bl := Nat × TypeId × Array Value
/-- Something that is so in a world, and the blocks on which it hangs. -/
structure Fct where
  P : World → Prop
  F : Nat → Prop
structure Fct.Ok (f : Fct) : Prop where
  keep : ∀ w w', f.P w → w.heap.size ≤ w'.heap.size → (∀ b, b < w.heap.size → f.F b → w'.heap[b]? = w.heap[b]?) → f.P w'
  inb : ∀ w b, f.P w → f.F b → b < w.heap.size
structure Loc (w0 w : World) (bs : List Bl) (fs : List Fct) : Prop where
  K : Below w0.heap.size w0 w
  bk : ∀ i b, nth bs i = some b → Bk w b.1 b.2.1 b.2.2 ∧ w0.heap.size ≤ b.1
  ne : ∀ i j b b', nth bs i = some b → nth bs j = some b' → i ≠ j → b.1 ≠ b'.1
  fc : ∀ f, f ∈ fs → f.P w ∧ f.Ok ∧ ∀ i b, nth bs i = some b → ¬ f.F b.1
section
variable {w0 w w' : World} {bs : List Bl} {fs : List Fct} {g g' : Nat} {t t' : TypeId} {l l' : Array Value}
theorem Loc.start (w : World) : Loc w w [] [] := ⟨Below.refl _ _, (fun i b h => by cases h), (fun i j b b' h => by cases h), (fun f h => by cases h)⟩
theorem Loc.other (h : Loc w0 w bs fs) (o : Obj) : Loc w0 (w.alloc o) bs fs :=
  ⟨Below.then_ h.K (below_alloc w o), fun i b e => ⟨(h.bk i b e).1.alloc o, (h.bk i b e).2⟩, h.ne, fun f e => by
    obtain ⟨p, ok, d⟩ := h.fc f e
    exact ⟨ok.keep _ _ p (below_alloc w o).size (fun b hb _ => (below_alloc w o).block b hb), ok, d⟩⟩
theorem Loc.alloc (h : Loc w0 w bs fs) (l : Array Value) (t : TypeId) : Loc w0 (w.alloc (.cells l t)) ((w.heap.size, t, l) :: bs) fs := by
  have h' := h.other (.cells l t)
  refine ⟨h'.K, fun i b e => ?_, fun i j b b' e e' hij => ?_, fun f e => ?_⟩
  · match i, e with
    | 0, e => injection e with e; subst e; exact ⟨Bk.new _ _ _, h.K.size⟩
    | i + 1, e => exact h'.bk i b e
  · match i, j, e, e', hij with
    | 0, 0, _, _, hij => exact absurd rfl hij
    | 0, j + 1, e, e', _ =>
      injection e with e; subst e
      have := (h.bk j b' e').1.lt
      show w.heap.size ≠ b'.1
      omega
    | i + 1, 0, e, e', _ =>
      injection e' with e'; subst e'
      have := (h.bk i b e).1.lt
      show b.1 ≠ w.heap.size
      omega
    | i + 1, j + 1, e, e', hij => exact h.ne i j b b' e e' (by omega)
  · obtain ⟨p, ok, d⟩ := h'.fc f e
    refine ⟨p, ok, fun i b e' => ?_⟩
    match i, e' with
    | 0, e' =>
      injection e' with e'; subst e'
      intro hf
      have := ok.inb _ _ (h.fc f e).1 hf
      simp at this
    | i + 1, e' => exact d i b e'
theorem Loc.over (h : Loc w0 w bs fs) (K' : Below w.heap.size w w') : Loc w0 w' bs fs :=
  ⟨Below.then_ h.K K', fun i b e => ⟨(h.bk i b e).1.below K', (h.bk i b e).2⟩, h.ne, fun f e => by
    obtain ⟨p, ok, d⟩ := h.fc f e
    exact ⟨ok.keep _ _ p K'.size (fun b hb _ => K'.block b hb), ok, d⟩⟩
theorem Loc.drew (h : Loc w0 w bs fs) : Loc w0 w.drew bs fs := h.over (Below.refl _ _).drew
/-- One block is written, by whatever leaves all others alone. -/
theorem Loc.put (h : Loc w0 w bs fs) (i : Nat) (hi : nth bs i = some (g, t, l)) (K : Below w0.heap.size w0 w') (hs : w.heap.size ≤ w'.heap.size) (hb : Bk w' g t l') (ho : ∀ b, b ≠ g → w'.heap[b]? = w.heap[b]?) : Loc w0 w' (nput bs i (g, t, l')) fs := by
  refine ⟨K, fun j b e => ?_, fun j k b b' e e' hjk => ?_, fun f e => ?_⟩
  · rcases nth_nput e with ⟨_, rfl⟩ | ⟨hij, e⟩
    · exact ⟨hb, (h.bk i _ hi).2⟩
    · exact ⟨(ho b.1 (h.ne j i b _ e hi (Ne.symm hij))).trans (h.bk j b e).1, (h.bk j b e).2⟩
  · rcases nth_nput e with ⟨e1, rfl⟩ | ⟨hij, e⟩
    · rcases nth_nput e' with ⟨e2, rfl⟩ | ⟨hik, e'⟩
      · omega
      · exact h.ne i k (g, t, l) b' hi e' hik
    · rcases nth_nput e' with ⟨e2, rfl⟩ | ⟨hik, e'⟩
      · exact h.ne j i b (g, t, l) e hi (Ne.symm hij)
      · exact h.ne j k b b' e e' hjk
  · obtain ⟨p, ok, d⟩ := h.fc f e
    refine ⟨ok.keep _ _ p hs (fun b _ hf => ho b fun eb => ?_), ok, fun j b e' => ?_⟩
    · subst eb; exact d i _ hi hf
    · rcases nth_nput e' with ⟨_, rfl⟩ | ⟨_, e'⟩
      · exact d i (g, t, l) hi
      · exact d j b e'
theorem Loc.set (h : Loc w0 w bs fs) (i o : Nat) (hi : nth bs i = some (g, t, l)) (v : Value) : Loc w0 (w.setCell ⟨g, o, none⟩ v) (nput bs i (g, t, l.setIfInBounds o v)) fs :=
  h.put i hi (h.K.setCell (p := ⟨g, o, none⟩) (h.bk i _ hi).2 v) (by simp [World.setCell]) ((h.bk i _ hi).1.set_ o v) (fun b hb => Below.heap_setCell w ⟨g, o, none⟩ v b hb)
theorem Loc.row (h : Loc w0 w bs fs) (i : Nat) (hi : nth bs i = some (g, t, l)) (l' : Array Value) : Loc w0 (w.setRow g l') (nput bs i (g, t, l')) fs :=
  h.put i hi (below_setRow h.K (h.bk i _ hi).2 l') (by simp) ((h.bk i _ hi).1.row l') (fun b hb => setRow_other w g b l' hb)
/-- A block's content, said otherwise. -/
theorem Loc.is (h : Loc w0 w bs fs) (i : Nat) (l' : Array Value) (e : nth bs i = some (g, t, l')) : Loc w0 w (nput bs i (g, t, l')) fs :=
  h.put i e h.K (Nat.le_refl _) (h.bk i _ e).1 (fun _ _ => rfl)
theorem Loc.bk_ (h : Loc w0 w bs fs) (i : Nat) (hi : nth bs i = some (g, t, l)) : Bk w g t l := (h.bk i _ hi).1
theorem Loc.at_ (h : Loc w0 w bs fs) (i o : Nat) (hi : nth bs i = some (g, t, l)) {v : Value} (e : l[o]? = some v) : w.cell? ⟨g, o, none⟩ = some v := (h.bk_ i hi).at_ o e
theorem Loc.lt (h : Loc w0 w bs fs) (i : Nat) (hi : nth bs i = some (g, t, l)) : g < w.heap.size := (h.bk_ i hi).lt
theorem Loc.fz (h : Loc w0 w bs fs) (i o : Nat) (hi : nth bs i = some (g, t, l)) : w.frozen? ⟨g, o, none⟩ = false := (h.bk_ i hi).fz o
theorem Loc.lts (h : Loc w0 w bs fs) : ∀ i b, nth bs i = some b → b.1 < w.heap.size := fun i b e => (h.bk i b e).1.lt
theorem Loc.ges (h : Loc w0 w bs fs) : ∀ i b, nth bs i = some b → w0.heap.size ≤ b.1 := fun i b e => (h.bk i b e).2
theorem Loc.add (h : Loc w0 w bs fs) (f : Fct) (hP : f.P w) (ok : f.Ok) (hd : ∀ i b, nth bs i = some b → ¬ f.F b.1) : Loc w0 w bs (f :: fs) :=
  ⟨h.K, h.bk, h.ne, fun f' e => by
    rcases List.mem_cons.1 e with rfl | e
    · exact ⟨hP, ok, hd⟩
    · exact h.fc f' e⟩
theorem Loc.get (h : Loc w0 w bs fs) (k : Nat) {f : Fct} (e : nth fs k = some f) : f.P w := (h.fc f (nth_mem e)).1
theorem Loc.less (h : Loc w0 w bs fs) (k : Nat) : Loc w0 w bs (fs.drop k) := ⟨h.K, h.bk, h.ne, fun f e => h.fc f (List.mem_of_mem_drop e)⟩
/-- The facts that are left, in whatever order. -/
theorem Loc.only (h : Loc w0 w bs fs) {fs' : List Fct} (e : ∀ f, f ∈ fs' → f ∈ fs) : Loc w0 w bs fs' := ⟨h.K, h.bk, h.ne, fun f e' => h.fc f (e f e')⟩
end
/-- The list doesn't lie in block g. -/
def Apart (k : Nat) (B : Option Addr) : Prop := ∀ b o, B = some ⟨b, o, none⟩ → b ≠ k
def iF (k : IntKind) (lo : Nat) (A : Option Addr) (n c : Nat) (xs : List Int) : Fct := ⟨fun w => IS k lo w A n c xs, fun b => 0 < n ∧ ∃ o, A = some ⟨b, o, none⟩⟩
def uF (A : Option Addr) (n c : Nat) (xs : List Nat) : Fct := ⟨fun w => US w A n c xs, fun b => 0 < n ∧ ∃ o, A = some ⟨b, o, none⟩⟩
theorem iF_ok (k : IntKind) (lo : Nat) (A : Option Addr) (n c : Nat) (xs : List Int) : (iF k lo A n c xs).Ok :=
  ⟨fun w w' h hs hk => IS.keep h hs fun b o hn e hb => hk b hb ⟨hn, o, e⟩, fun w b h hf => by
    obtain ⟨hn, o, e⟩ := hf
    obtain ⟨b', o', e', _, hl, _⟩ := IS.cells h hn
    rw [e] at e'; injection e' with e'; injection e' with e1 e2; omega⟩
theorem uF_ok (A : Option Addr) (n c : Nat) (xs : List Nat) : (uF A n c xs).Ok :=
  ⟨fun w w' h hs hk => by
    rcases Nat.eq_zero_or_pos n with h0 | h0
    · exact ⟨h.len, h.cap, h.most, h.nil_, h.fit, fun hn => absurd hn (by omega)⟩
    · exact US.keep h hs fun b o e hb => hk b hb ⟨h0, o, e⟩, fun w b h hf => by
    obtain ⟨hn, o, e⟩ := hf
    obtain ⟨b', o', e', hl, _⟩ := US.cells h hn
    rw [e] at e'; injection e' with e'; injection e' with e1 e2; omega⟩
section
variable {w0 w w' : World} {bs : List Bl} {fs : List Fct} {k : IntKind} {lo : Nat} {A : Option Addr} {n c : Nat} {xs : List Int} {ys : List Nat}
theorem Loc.is_new (h : Loc w0 w bs fs) (hl : ∀ i b, nth bs i = some b → b.1 < lo) (hI : IS k lo w A n c xs) : Loc w0 w bs (iF k lo A n c xs :: fs) :=
  h.add _ hI (iF_ok _ _ _ _ _ _) fun i b e hf => by
    obtain ⟨hn, o, e'⟩ := hf
    obtain ⟨b', o', e2, hlo, _⟩ := IS.cells hI hn
    have := hl i b e
    rw [e'] at e2; injection e2 with e2; injection e2 with e3 e4; omega
theorem Loc.us_av (h : Loc w0 w bs fs) (hl : ∀ i b, nth bs i = some b → Apart b.1 A) (hU : US w A n c ys) : Loc w0 w bs (uF A n c ys :: fs) :=
  h.add _ hU (uF_ok _ _ _ _) fun i b e hf => by
    obtain ⟨hn, o, e'⟩ := hf
    exact hl i b e _ _ e' rfl
theorem Loc.is_ (h : Loc w0 w bs fs) (j : Nat) (e : nth fs j = some (iF k lo A n c xs)) : IS k lo w A n c xs := h.get j e
theorem Loc.us_ (h : Loc w0 w bs fs) (j : Nat) (e : nth fs j = some (uF A n c ys)) : US w A n c ys := h.get j e
def ndel {α : Type} : List α → Nat → List α
  | [], _ => []
  | _ :: l, 0 => l
  | a :: l, k + 1 => a :: ndel l k
theorem nth_ndel {α : Type} : ∀ {l : List α} {i j : Nat} {x : α}, nth (ndel l i) j = some x → nth l (if j < i then j else j + 1) = some x
  | [], i, j, x, h => by cases h
  | a :: l, 0, j, x, h => by rw [if_neg (by omega)]; exact h
  | a :: l, i + 1, 0, x, h => by rw [if_pos (by omega)]; exact h
  | a :: l, i + 1, j + 1, x, h => by
    have := nth_ndel (l := l) (i := i) (j := j) (by exact h)
    by_cases hj : j < i
    · rw [if_pos hj] at this; rw [if_pos (by omega)]; exact this
    · rw [if_neg hj] at this; rw [if_neg (by omega)]; exact this
/-- A block that is followed no more. -/
theorem Loc.del (h : Loc w0 w bs fs) (i : Nat) : Loc w0 w (ndel bs i) fs :=
  ⟨h.K, fun j b e => h.bk _ b (nth_ndel e), fun j k b b' e e' hjk => h.ne _ _ b b' (nth_ndel e) (nth_ndel e') (by split <;> split <;> omega), fun f e => ⟨(h.fc f e).1, (h.fc f e).2.1, fun j b e' => (h.fc f e).2.2 _ b (nth_ndel e')⟩⟩
theorem Loc.ap_ (h : Loc w0 w bs fs) (k : Nat) (e : nth fs k = some (uF A n c ys)) (hn : 0 < n) : ∀ i b, nth bs i = some b → Apart b.1 A := fun i b e' b' o ea hb => by
  subst hb
  exact (h.fc _ (nth_mem e)).2.2 i b e' ⟨hn, o, ea⟩
/-- A list of old lies in no block of the call's own. -/
theorem US.apart0 (hU : US w0 A n c ys) (hn : 0 < n) (h : Loc w0 w bs fs) : ∀ i b, nth bs i = some b → Apart b.1 A := fun i b e b' o e' => by
  obtain ⟨b2, o2, e2, hl, _⟩ := hU.cells hn
  have := h.ges i b e
  rw [e'] at e2; injection e2 with e2; injection e2 with e3 e4; omega
theorem IS.apart0 (hU : IS k lo w0 A n c xs) (hn : 0 < n) (h : Loc w0 w bs fs) : ∀ i b, nth bs i = some b → Apart b.1 A := fun i b e b' o e' => by
  obtain ⟨b2, o2, e2, _, hl, _⟩ := hU.cells hn
  have := h.ges i b e
  rw [e'] at e2; injection e2 with e2; injection e2 with e3 e4; omega
end
theorem US.here {w : World} {b o n c : Nat} {ys : List Nat} (h : US w (some ⟨b, o, none⟩) n c ys) {j : Nat} (hj : j < n) : w.cell? ⟨b, o + j, none⟩ = some (.int .u64 (gt ys j : Nat)) := by
  obtain ⟨b', o', e, _, hc⟩ := h.get hj
  injection e with e; injection e with e1 e2
  subst e1 e2
  exact hc
/-- The heap is at least so great. -/
def zF (lo : Nat) : Fct := ⟨fun w => lo ≤ w.heap.size, fun _ => False⟩
theorem Loc.sz {w0 w : World} {bs : List Bl} {fs : List Fct} (L : Loc w0 w bs fs) {lo : Nat} (h : lo ≤ w.heap.size) : Loc w0 w bs (zF lo :: fs) :=
  L.add (zF lo) h ⟨fun w w' h hs _ => Nat.le_trans h hs, fun w b _ hf => hf.elim⟩ fun _ _ _ hf => hf.elim
theorem Loc.sz_ {w0 w : World} {bs : List Bl} {fs : List Fct} (L : Loc w0 w bs fs) (k : Nat) {lo : Nat} (e : nth fs k = some (zF lo)) : lo ≤ w.heap.size := L.get k e
/-- The four lists of an operation. -/
def lF (lo : Nat) (h : Hd) (l : Ls) : List Fct := [iF .u32 lo h.A0 h.n0 h.c0 l.rqs, iF .u32 lo h.A1 h.n1 h.c1 l.ads, iF .i64 lo h.A2 h.n2 h.c2 l.ers, iF .u64 lo h.A3 h.n3 h.c3 l.ses]
theorem Loc.lists {w0 w : World} {bs : List Bl} {fs : List Fct} {lo : Nat} {h : Hd} {l : Ls} (L : Loc w0 w bs fs) (hl : ∀ i b, nth bs i = some b → b.1 < lo) (H : Lists lo w h l) : Loc w0 w bs (lF lo h l ++ fs) :=
  ((((L.is_new hl H.i3).is_new hl H.i2).is_new hl H.i1).is_new hl H.i0)
theorem Loc.gs {w0 w : World} {bs : List Bl} {fs : List Fct} (h : Loc w0 w bs fs) : ∀ g, g ∈ bs.map (·.1) → g < w.heap.size := fun g hg => by
  have aux : ∀ {bs : List Bl}, g ∈ bs.map (·.1) → ∃ i b, nth bs i = some b ∧ b.1 = g := by
    intro bs
    induction bs with
    | nil => intro h; cases h
    | cons b r ih =>
      intro h
      rcases List.mem_cons.1 h with e | h
      · exact ⟨0, b, rfl, e.symm⟩
      · obtain ⟨i, b', e1, e2⟩ := ih h
        exact ⟨i + 1, b', e1, e2⟩
  obtain ⟨i, b, e, rfl⟩ := aux hg
  exact h.lts i b e
theorem nth_map {bs : List Bl} {i : Nat} {b : Bl} (e : nth bs i = some b) : b.1 ∈ bs.map (·.1) := List.mem_map.2 ⟨b, nth_mem e, rfl⟩
theorem Loc.lists' {w0 w : World} {bs : List Bl} {fs : List Fct} {lo : Nat} {h : Hd} {l : Ls} (L : Loc w0 w bs fs) (hl : ∀ g, g ∈ bs.map (·.1) → g < lo) (H : Lists lo w h l) : Loc w0 w bs (lF lo h l ++ fs) :=
  L.lists (fun i b e => hl _ (nth_map e)) H
theorem Loc.lists_ {w0 w : World} {bs : List Bl} {fs : List Fct} {lo : Nat} {h : Hd} {l : Ls} (L : Loc w0 w bs fs) (e : ∀ f, f ∈ lF lo h l → f ∈ fs) : Lists lo w h l :=
  ⟨(L.fc _ (e (iF .u32 lo h.A0 h.n0 h.c0 l.rqs) (by simp [lF]))).1, (L.fc _ (e (iF .u32 lo h.A1 h.n1 h.c1 l.ads) (by simp [lF]))).1, (L.fc _ (e (iF .i64 lo h.A2 h.n2 h.c2 l.ers) (by simp [lF]))).1, (L.fc _ (e (iF .u64 lo h.A3 h.n3 h.c3 l.ses) (by simp [lF]))).1⟩
theorem Loc.lists_at {w0 w : World} {bs : List Bl} {fs : List Fct} {lo : Nat} {h : Hd} {l : Ls} (L : Loc w0 w bs fs) (k : Nat) {rest : List Fct} (e : fs.drop k = lF lo h l ++ rest) : Lists lo w h l :=
  L.lists_ fun f hf => List.mem_of_mem_drop (by rw [e]; exact List.mem_append_left _ hf)
theorem Lists.lower_ {w : World} {lo lo' : Nat} {h : Hd} {l : Ls} (H : Lists lo w h l) (hl : lo' ≤ lo) : Lists lo' w h l := ⟨H.i0.lower hl, H.i1.lower hl, H.i2.lower hl, H.i3.lower hl⟩
/-- What is answered of cells: in new memory, or what was handed in. -/
theorem results_tct {P : Program} {fn : Func} {q p r : Tmp} {ty : TypeId} (h : fn.results = #[.tmp q, .cell p ty, .tmp r]) (tmps : Array Value) (w : World) (g : Nat) (t : TypeId) (cs : Array Value) (fr : Nat × Nat) (d : TypeDesc)
    (hp : tmps.getD p undef = .pointer (some ⟨g, 0, none⟩)) (hg : w.heap[g]? = some (.cells cs t fr))
    (hu : P.underlying ty = some d) (hd : (match d with | .struct _ | .array _ _ => true | _ => false) = true) (hi : (P.info? ty).map (·.size) = some cs.size) :
    (results fn tmps).run P w = .ok (.tuple #[tmps.getD q undef, .agg cs, tmps.getD r undef]) w := by
  have hp' : tmps[p]?.getD undef = .pointer (some ⟨g, 0, none⟩) := by simpa using hp
  simp [results, h, hp', asAddr, run_loadVar_row w g t ty cs fr d hg hu hd hi]
end Go.Proofs.Ytacgjaohfcoigaa
