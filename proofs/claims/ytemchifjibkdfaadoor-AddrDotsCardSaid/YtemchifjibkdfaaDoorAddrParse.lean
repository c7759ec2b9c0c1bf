/-
  What Parse, BlockText and ParseBlock of package addr answer. Conditions: texts of at most 1000 bytes; the variables of the library as the program's text lays them.
-/
import Derived.Test.YtemchifjibkdfaaDoorAddrRead
import Derived.Deep.RegionHeld3
namespace Go.Proofs.YtemchifjibkdfaaDoor
open Go.RowKit
/-- An error's number: 0, or 2. -/
def er {α : Type} (o : Option α) : Int := if o.isSome then 0 else 2
theorem parse_any (l : List UInt8) (hl : l.length ≤ 1000) (w : World) :
    Calls Tryd.prog 11 #[S l] w fun e w' => e = .returned (.tuple #[.int .u32 ((par l).getD 0 : Nat), .int .i64 (er (par l))]) ∧ Below w.heap.size w w' := by
  have T := Lib.hid (numbers_any l hl w)
  cases hR : readN 4 l true with
  | none =>
    rw [hR] at T
    rw [par_none hR]
    go_enter Tryd.func11, Tryd.ntmps11
    go_wp2_with fail
    refine (T.out).mono ?_
    rintro e w1 ⟨x, rfl, -, K1⟩
    clear T
    go_wp2
    go_ret2
    exact ⟨rfl, Below.then_ K1 (below_alloc _ _)⟩
  | some r =>
    obtain ⟨a, b, c, d, ha, hb, hc, hd, rfl, -⟩ := readN_inv hR
    rw [hR] at T
    rw [par_some hR]
    go_enter Tryd.func11, Tryd.ntmps11
    go_wp2_with fail
    refine (T.out).mono ?_
    rintro e w1 ⟨x, rfl, hx, K1⟩
    have hx' := hx _ rfl
    simp only [pf, List.range, List.range.loop, List.map_cons, List.map_nil, List.cons_append, List.nil_append, List.cons.injEq, and_true] at hx'
    obtain ⟨rfl, rfl, rfl, rfl⟩ := hx'
    clear T hx hR
    have J := fun w2 => Lib.hid (join_any (x 0) (x 1) (x 2) (x 3) ha hb hc hd w2)
    go_wp2_with fail
    refine ((J _).out).mono ?_
    rintro e w2 ⟨rfl, K2⟩
    go_wp2
    go_ret2
    exact ⟨rfl, Below.then_ (Below.then_ K1 (below_alloc _ _)) K2⟩
/-- What a region's calls leave: two cells, and all that was there. -/
theorem s_two {w1 wa wb : World} {g : Nat} {u v : Value} (h : wa.cell? ⟨g, 0, none⟩ = some u ∧ wa.cell? ⟨g, 1, none⟩ = some v ∧ Below w1.heap.size w1 wa) (hg : g + 1 ≤ w1.heap.size) (K : Below wa.heap.size wa wb) :
    wb.cell? ⟨g, 0, none⟩ = some u ∧ wb.cell? ⟨g, 1, none⟩ = some v ∧ Below w1.heap.size w1 wb := by
  have hs := h.2.2.size
  refine ⟨?_, ?_, Below.then_ h.2.2 K⟩
  · rw [K.cell (by show g < _; omega)]; exact h.1
  · rw [K.cell (by show g < _; omega)]; exact h.2.1
theorem s_laid {w1 wa : World} {A B : Prop} (h : A ∧ B ∧ Below w1.heap.size w1 wa) (hw : Laid w1) : Laid wa := hw.below h.2.2
theorem btext_any (a : Nat) (ha : a < 4294967296) (p : Int) (w : World) (hw : Laid w) :
    Calls Tryd.prog 9 #[.agg #[.int .u32 a, .int .i64 p]] w fun e w' => e = .returned (.tuple #[S (if mayB a p then btxt a p.toNat else []), .int .i64 (if mayB a p then 0 else 2)]) ∧ Below w.heap.size w w' := by
  cases hm : mayB a p with
  | false =>
    have T := fun w2 => Lib.hid (may_any a ha p w2)
    rw [hm] at T
    go_enter Tryd.func9, Tryd.ntmps9
    go_wp2_with fail
    refine ((T _).out).mono ?_
    rintro e w1 ⟨rfl, K1⟩
    clear T
    go_wp2
    go_ret2
    exact ⟨rfl, Below.then_ (below_alloc _ _) K1⟩
  | true =>
    obtain ⟨h16, h32⟩ := mayB_rng hm
    obtain ⟨P, rfl⟩ : ∃ P : Nat, p = P := ⟨p.toNat, by omega⟩
    have T := fun w2 => Lib.hid (may_any a ha P w2)
    rw [hm] at T
    have hb : ∀ w1, Below (w.alloc (.cells #[.int .u32 a, .int .i64 P] 24)).heap.size (w.alloc (.cells #[.int .u32 a, .int .i64 P] 24)) w1 → w1.cell? ⟨w.heap.size, 0, none⟩ = some (.int .u32 a) ∧ w1.cell? ⟨w.heap.size, 1, none⟩ = some (.int .i64 P) := by
      intro w1 K
      rw [K.cell (by simp), K.cell (by simp)]
      exact ⟨cell_of_row _ _ 0 _ _ (0, 0) (heap_alloc_new w _), cell_of_row _ _ 1 _ _ (0, 0) (heap_alloc_new w _)⟩
    go_enter Tryd.func9, Tryd.ntmps9
    go_wp2_with fail
    refine ((T _).out).mono ?_
    rintro e w1 ⟨rfl, K1⟩
    clear T
    obtain ⟨q0, q1⟩ := hb w1 K1
    clear hb
    have K2 := Below.then_ (below_alloc _ _) K1
    have hg := K1.size
    rw [World.size_alloc] at hg
    have hw1 := hw.below K2
    clear K1
    have n0 := txt_len a
    have n3 := d3_len P
    have n1 : ¬ 9223372036854775807 < (txt a).length + 1 := by omega
    have n1' : ¬ 9223372036854775806 < (txt a).length := by omega
    have n2 : ¬ 9223372036854775807 < (txt a).length + 1 + (d3 P).length := by omega
    go_wp2_with fail
    go_region_held3 (fun w' => w'.cell? ⟨w.heap.size, 0, none⟩ = some (.int .u32 a) ∧ w'.cell? ⟨w.heap.size, 1, none⟩ = some (.int .i64 P) ∧ Below w1.heap.size w1 w') (first | assumption | exact ⟨q0, q1, (Below.refl _ _).drew⟩ | exact s_two (by assumption) hg K')
      (first | (go_at_call 15; refine (text_any a ha _ (s_laid (by assumption) hw1)).mono ?_; rintro e w' ⟨rfl, K'⟩) | (go_at_call 20; refine (itoa_any P (by omega) _).mono ?_; rintro e w' ⟨rfl, rfl⟩))
    rename_i hS
    go_wp2
    go_ret2
    refine ⟨?_, Below.then_ K2 hS.2.2⟩
    have E : (⟨(txt a).toArray⟩ : ByteArray) ++ ⟨#[47]⟩ ++ ⟨(d3 P).toArray⟩ = ⟨(btxt a P).toArray⟩ := by
      rw [show (#[47] : Array UInt8) = [47].toArray from rfl, ByteArray.mk_append_mk, ByteArray.mk_append_mk]
      simp [btxt]
    change Ending.returned (.tuple #[.string ((⟨(txt a).toArray⟩ : ByteArray) ++ ⟨#[47]⟩ ++ ⟨(d3 P).toArray⟩), .int .i64 0]) = _
    rw [E]
def B2 (w : World) (g : Nat) (u v : Value) : Prop := w.heap[g]? = some (.cells #[u, v] 24 (0, 0))
section
variable {w w' : World} {g : Nat} {u v : Value}
theorem B2.lt (h : B2 w g u v) : g < w.heap.size := lt_of_block h
theorem B2.c0 (h : B2 w g u v) : w.cell? ⟨g, 0, none⟩ = some u := cell_of_row w g 0 _ _ (0, 0) h
theorem B2.c1 (h : B2 w g u v) : w.cell? ⟨g, 1, none⟩ = some v := cell_of_row w g 1 _ _ (0, 0) h
theorem B2.fz (h : B2 w g u v) (i : Nat) : w.frozen? ⟨g, i, none⟩ = false := by
  unfold B2 at h
  simp [World.frozen?, h]
theorem B2.below (h : B2 w g u v) (K : Below w.heap.size w w') : B2 w' g u v := (K.block g h.lt).trans h
theorem B2.new (w : World) (u v : Value) : B2 (w.alloc (.cells #[u, v] 24)) w.heap.size u v := heap_alloc_new w _
theorem B2.alloc (h : B2 w g u v) (o : Obj) : B2 (w.alloc o) g u v := h.below (below_alloc w o)
end
theorem atoi_any (l : List UInt8) (hl : l.length ≤ 1000) (w : World) (hw : Laid w) :
    Calls Tryd.prog 26 #[S l] w fun e w' => ∃ n ev, e = .returned (.tuple #[.int .i64 n, ev]) ∧ ((ev = .nilIface ∧ Lib.atoiAll l = .ok n) ∨ ((∃ tp p, ev = .iface tp p) ∧ ∀ v, Lib.atoiAll l ≠ .ok v)) ∧ Below w.heap.size w w' := by
  by_cases h : ∃ v, Lib.atoiAll l = .ok v
  · obtain ⟨v, hv⟩ := h
    refine (atoi_ok l hl v hv w).mono ?_
    rintro e w' ⟨rfl, K⟩
    exact ⟨v, _, rfl, .inl ⟨rfl, hv⟩, K⟩
  · have h' : ∀ v, Lib.atoiAll l ≠ .ok v := fun v e => h ⟨v, e⟩
    refine (atoi_bad l hl h' w hw).mono ?_
    rintro e w' ⟨n, tp, p, rfl, K⟩
    exact ⟨n, _, rfl, .inr ⟨⟨tp, p, rfl⟩, h'⟩, K⟩
/-- What a text that is a block's is. -/
theorem parB_cut {l x y : List UInt8} {m : Bool} (hc : cut1 47 l = (x, y, m)) {a p : Nat} (h : parB l = some (a, p)) : a < 4294967296 ∧ mayB a p = true ∧ l = btxt a p ∧ par x = some a ∧ Lib.atoiAll y = .ok (p : Int) := by
  obtain ⟨h1, h2, h3⟩ := parB_inv h
  have := cut_btxt (p := p) h1
  rw [← h3, hc] at this
  simp only [Prod.mk.injEq] at this
  obtain ⟨rfl, rfl, _⟩ := this
  have := mayB_rng h2
  exact ⟨h1, h2, h3, par_txt h1, atoi_d3 p (by omega) (by omega)⟩
def bk (o : Option (Nat × Nat)) : Value := .agg #[.int .u32 ((o.getD (0, 0)).1 : Nat), .int .i64 ((o.getD (0, 0)).2 : Nat)]
set_option maxRecDepth 100000 in
set_option maxHeartbeats 1000000 in
theorem pblock_any (l : List UInt8) (hl : l.length ≤ 1000) (w : World) (hw : Laid w) :
    Calls Tryd.prog 13 #[S l] w fun e w' => e = .returned (.tuple #[bk (parB l), .int .i64 (er (parB l))]) ∧ Below w.heap.size w w' := by
  obtain ⟨x, y, m, hcut⟩ : ∃ x y m, cut1 47 l = (x, y, m) := ⟨_, _, _, rfl⟩
  have hlen := cut1_len 47 l
  rw [hcut] at hlen
  simp only at hlen
  have T := fun w2 => Lib.hid (cut_any l 47 hl w2)
  rw [hcut] at T
  simp only at T
  have HC := Lib.hid hcut
  clear hcut
  go_enter Tryd.func13, Tryd.ntmps13
  go_wp2_with fail
  refine ((T _).out).mono ?_
  rintro e w1 ⟨rfl, K1⟩
  clear T
  have G1 := Lib.hid ((B2.new w (.int .u32 0) (.int .i64 0)).below K1)
  replace K1 := Below.then_ (below_alloc w _) K1
  have P1 := Lib.hid (parse_any x (by omega) w1)
  go_wp2_with fail
  refine (P1.out).mono ?_
  rintro e w2 ⟨rfl, K2⟩
  clear P1
  have G2 := Lib.hid (G1.out.below K2)
  replace K2 := Below.then_ K1 K2
  clear G1 K1
  have P2 := Lib.hid (atoi_any y (by omega) w2 (hw.below K2))
  go_wp2_with fail
  refine (P2.out).mono ?_
  rintro e w3 ⟨n, ev, rfl, hev, K3⟩
  clear P2
  have G3 := G2.out.below K3
  replace K3 := Below.then_ K2 K3
  clear G2 K2
  have g0 := G3.c0
  have g1 := G3.c1
  have f0 := G3.fz 0
  have f1 := G3.fz 1
  have HG := Lib.hid G3
  clear G3
  cases hP : par x with
  | none =>
    have hN : parB l = none := by
      cases h : parB l with
      | none => rfl
      | some ap =>
        have := (parB_cut HC.out (a := ap.1) (p := ap.2) h).2.2.2.1
        rw [hP] at this
        cases this
    go_wp2
    refine bodyPost_ret (v := .tuple #[.agg #[.int .u32 0, .int .i64 0], .int .i64 2]) (by simp [results, Tryd.results13, go_sem, g0, g1]) rfl ⟨by rw [hN]; rfl, (K3.setCell (Nat.le_refl _) _).setCell (Nat.le_refl _) _⟩
  | some a =>
    obtain ⟨ha, hx⟩ := par_inv hP
    rcases hev with ⟨rfl, hok⟩ | ⟨⟨tp, p, rfl⟩, hbad⟩
    · have P4 := fun w4 (h : Laid w4) => Lib.hid (btext_any a ha n w4 h)
      cases hm : mayB a n with
      | false =>
        have hN : parB l = none := by
          cases h : parB l with
          | none => rfl
          | some ap =>
            obtain ⟨_, h2, h3, h4, h5⟩ := parB_cut HC.out (a := ap.1) (p := ap.2) h
            rw [hP] at h4
            rw [hok] at h5
            simp only [Option.some.injEq, Lib.NumEnd.ok.injEq] at h4 h5
            rw [← h4, ← h5, hm] at h2
            cases h2
        rw [hm] at P4
        go_wp2_with fail
        refine ((P4 _ ?_).out).mono ?_
        · exact hw.below (Below.then_ K3 (below_alloc _ _))
        rintro e w5 ⟨rfl, K5⟩
        clear P4
        have G5 := (HG.out.alloc _).below K5
        have K6 := Below.then_ (Below.then_ K3 (below_alloc _ _)) K5
        replace g0 := G5.c0
        replace g1 := G5.c1
        replace f0 := G5.fz 0
        replace f1 := G5.fz 1
        clear G5 HG
        go_wp2
        refine bodyPost_ret (v := .tuple #[.agg #[.int .u32 0, .int .i64 0], .int .i64 2]) (by simp [results, Tryd.results13, go_sem, g0, g1]) rfl ⟨by rw [hN]; rfl, (K6.setCell (Nat.le_refl _) _).setCell (Nat.le_refl _) _⟩
      | true =>
        obtain ⟨h16, h32⟩ := mayB_rng hm
        obtain ⟨P, rfl⟩ : ∃ P : Nat, n = P := ⟨n.toNat, by omega⟩
        rw [hm] at P4
        simp only [if_true, Int.toNat_natCast] at P4
        by_cases hl2 : btxt a P = l
        · have hY : parB l = some (a, P) := by rw [← hl2]; exact parB_btxt ha hm
          go_wp2_with fail
          refine ((P4 _ ?_).out).mono ?_
          · exact hw.below (Below.then_ K3 (below_alloc _ _))
          rintro e w5 ⟨rfl, K5⟩
          clear P4
          have G5 := (HG.out.alloc _).below K5
          have N5 := (B2.new w3 (.int .u32 a) (.int .i64 P)).below K5
          have K6 := Below.then_ (Below.then_ K3 (below_alloc _ _)) K5
          replace g0 := G5.c0
          replace g1 := G5.c1
          replace f0 := G5.fz 0
          replace f1 := G5.fz 1
          have b0 := N5.c0
          have b1 := N5.c1
          clear G5 HG N5
          go_wp2
          refine bodyPost_ret (v := .tuple #[.agg #[.int .u32 a, .int .i64 P], .int .i64 0]) (by simp [results, Tryd.results13, go_sem, g0, g1]) rfl ⟨by rw [hY]; rfl, (K6.setCell (Nat.le_refl _) _).setCell (Nat.le_refl _) _⟩
        · skip
          have hN : parB l = none := by
            cases h : parB l with
            | none => rfl
            | some ap =>
              obtain ⟨_, h2, h3, h4, h5⟩ := parB_cut HC.out (a := ap.1) (p := ap.2) h
              rw [hP] at h4
              rw [hok] at h5
              simp only [Option.some.injEq, Lib.NumEnd.ok.injEq] at h4 h5
              exact absurd (by rw [h3, ← h4, show ap.2 = P by omega]) hl2
          go_wp2_with fail
          refine ((P4 _ ?_).out).mono ?_
          · exact hw.below (Below.then_ K3 (below_alloc _ _))
          rintro e w5 ⟨rfl, K5⟩
          clear P4
          have G5 := (HG.out.alloc _).below K5
          have K6 := Below.then_ (Below.then_ K3 (below_alloc _ _)) K5
          replace g0 := G5.c0
          replace g1 := G5.c1
          replace f0 := G5.fz 0
          replace f1 := G5.fz 1
          clear G5 HG
          have eq2 : (btxt a P == l) = false := by simpa using hl2
          clear hl2
          go_wp2
          refine bodyPost_ret (v := .tuple #[.agg #[.int .u32 0, .int .i64 0], .int .i64 2]) (by simp [results, Tryd.results13, go_sem, g0, g1]) rfl ⟨by rw [hN]; rfl, (K6.setCell (Nat.le_refl _) _).setCell (Nat.le_refl _) _⟩
    · skip
      have hN : parB l = none := by
        cases h : parB l with
        | none => rfl
        | some ap =>
          obtain ⟨_, h2, h3, h4, h5⟩ := parB_cut HC.out (a := ap.1) (p := ap.2) h
          exact absurd h5 (hbad _)
      go_wp2
      refine bodyPost_ret (v := .tuple #[.agg #[.int .u32 0, .int .i64 0], .int .i64 2]) (by simp [results, Tryd.results13, go_sem, g0, g1]) rfl ⟨by rw [hN]; rfl, (K3.setCell (Nat.le_refl _) _).setCell (Nat.le_refl _) _⟩
end Go.Proofs.YtemchifjibkdfaaDoor
