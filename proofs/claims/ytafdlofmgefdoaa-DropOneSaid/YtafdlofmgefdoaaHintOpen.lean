/-
  What a law is told of an operation that came in: its numbers, and the rows of its lists.
-/
import Derived.Test.YtafdlofmgefdoaaHintGuard
namespace Go.Proofs.Ytafdlofmgefdoaa
open Go.ChangeShapes Go.WideShapes Go.ChangeAt Go.RowKit Go.Joins
set_option linter.unusedVariables false
theorem array20 {α : Type} {cs : Array α} (h : cs.size = 20) : ∃ c0 c1 c2 c3 c4 c5 c6 c7 c8 c9 c10 c11 c12 c13 c14 c15 c16 c17 c18 c19, cs = #[c0, c1, c2, c3, c4, c5, c6, c7, c8, c9, c10, c11, c12, c13, c14, c15, c16, c17, c18, c19] := by
  obtain ⟨l⟩ := cs
  match l, h with
  | [c0, c1, c2, c3, c4, c5, c6, c7, c8, c9, c10, c11, c12, c13, c14, c15, c16, c17, c18, c19], _ => exact ⟨c0, c1, c2, c3, c4, c5, c6, c7, c8, c9, c10, c11, c12, c13, c14, c15, c16, c17, c18, c19, rfl⟩
theorem trod_struct3x {H : Type} {enc : TypeId × Value → H} {P : Program} {w : World} {base : Nat} {spare : Nat → Bool} {held : Bool} {t : TypeId} {f0 f1 f2 : Field} {fuel : Nat} {cs : List Value} {x : DataW H × List MemPlace} (ht : P.underlying t = some (.struct #[f0, f1, f2])) (h : DataW.trod enc P w base spare held fuel t cs = some x) :
    ∃ y0 y1 y2 n, DataW.trod enc P w base spare held n f0.type ((cs.drop f0.offset).take (P.cellsOf f0.type)) = some y0 ∧ DataW.trod enc P w base spare held n f1.type ((cs.drop f1.offset).take (P.cellsOf f1.type)) = some y1 ∧ DataW.trod enc P w base spare held n f2.type ((cs.drop f2.offset).take (P.cellsOf f2.type)) = some y2 := by
  obtain ⟨xs, n, _, _, _, hlen, hf⟩ := DataW.trod_struct ht h
  match xs, hlen with
  | [y0, y1, y2], _ => exact ⟨y0, y1, y2, n, by simpa using hf 0 f0 rfl, by simpa using hf 1 f1 rfl, by simpa using hf 2 f2 rfl⟩
theorem trod_struct5x {H : Type} {enc : TypeId × Value → H} {P : Program} {w : World} {base : Nat} {spare : Nat → Bool} {held : Bool} {t : TypeId} {f0 f1 f2 f3 f4 : Field} {fuel : Nat} {cs : List Value} {x : DataW H × List MemPlace} (ht : P.underlying t = some (.struct #[f0, f1, f2, f3, f4])) (h : DataW.trod enc P w base spare held fuel t cs = some x) :
    ∃ y0 y1 y2 y3 y4 n, DataW.trod enc P w base spare held n f0.type ((cs.drop f0.offset).take (P.cellsOf f0.type)) = some y0 ∧ DataW.trod enc P w base spare held n f1.type ((cs.drop f1.offset).take (P.cellsOf f1.type)) = some y1 ∧ DataW.trod enc P w base spare held n f2.type ((cs.drop f2.offset).take (P.cellsOf f2.type)) = some y2 ∧ DataW.trod enc P w base spare held n f3.type ((cs.drop f3.offset).take (P.cellsOf f3.type)) = some y3 ∧ DataW.trod enc P w base spare held n f4.type ((cs.drop f4.offset).take (P.cellsOf f4.type)) = some y4 := by
  obtain ⟨xs, n, _, _, _, hlen, hf⟩ := DataW.trod_struct ht h
  match xs, hlen with
  | [y0, y1, y2, y3, y4], _ => exact ⟨y0, y1, y2, y3, y4, n, by simpa using hf 0 f0 rfl, by simpa using hf 1 f1 rfl, by simpa using hf 2 f2 rfl, by simpa using hf 3 f3 rfl, by simpa using hf 4 f4 rfl⟩
theorem trod_struct14x {H : Type} {enc : TypeId × Value → H} {P : Program} {w : World} {base : Nat} {spare : Nat → Bool} {held : Bool} {t : TypeId} {f0 f1 f2 f3 f4 f5 f6 f7 f8 f9 f10 f11 f12 f13 : Field} {fuel : Nat} {cs : List Value} {x : DataW H × List MemPlace} (ht : P.underlying t = some (.struct #[f0, f1, f2, f3, f4, f5, f6, f7, f8, f9, f10, f11, f12, f13])) (h : DataW.trod enc P w base spare held fuel t cs = some x) :
    ∃ y0 y1 y2 y3 y4 y5 y6 y7 y8 y9 y10 y11 y12 y13 n, DataW.trod enc P w base spare held n f0.type ((cs.drop f0.offset).take (P.cellsOf f0.type)) = some y0 ∧ DataW.trod enc P w base spare held n f1.type ((cs.drop f1.offset).take (P.cellsOf f1.type)) = some y1 ∧ DataW.trod enc P w base spare held n f2.type ((cs.drop f2.offset).take (P.cellsOf f2.type)) = some y2 ∧ DataW.trod enc P w base spare held n f3.type ((cs.drop f3.offset).take (P.cellsOf f3.type)) = some y3 ∧ DataW.trod enc P w base spare held n f4.type ((cs.drop f4.offset).take (P.cellsOf f4.type)) = some y4 ∧ DataW.trod enc P w base spare held n f5.type ((cs.drop f5.offset).take (P.cellsOf f5.type)) = some y5 ∧ DataW.trod enc P w base spare held n f6.type ((cs.drop f6.offset).take (P.cellsOf f6.type)) = some y6 ∧ DataW.trod enc P w base spare held n f7.type ((cs.drop f7.offset).take (P.cellsOf f7.type)) = some y7 ∧ DataW.trod enc P w base spare held n f8.type ((cs.drop f8.offset).take (P.cellsOf f8.type)) = some y8 ∧ DataW.trod enc P w base spare held n f9.type ((cs.drop f9.offset).take (P.cellsOf f9.type)) = some y9 ∧ DataW.trod enc P w base spare held n f10.type ((cs.drop f10.offset).take (P.cellsOf f10.type)) = some y10 ∧ DataW.trod enc P w base spare held n f11.type ((cs.drop f11.offset).take (P.cellsOf f11.type)) = some y11 ∧ DataW.trod enc P w base spare held n f12.type ((cs.drop f12.offset).take (P.cellsOf f12.type)) = some y12 ∧ DataW.trod enc P w base spare held n f13.type ((cs.drop f13.offset).take (P.cellsOf f13.type)) = some y13 := by
  obtain ⟨xs, n, _, _, _, hlen, hf⟩ := DataW.trod_struct ht h
  match xs, hlen with
  | [y0, y1, y2, y3, y4, y5, y6, y7, y8, y9, y10, y11, y12, y13], _ => exact ⟨y0, y1, y2, y3, y4, y5, y6, y7, y8, y9, y10, y11, y12, y13, n, by simpa using hf 0 f0 rfl, by simpa using hf 1 f1 rfl, by simpa using hf 2 f2 rfl, by simpa using hf 3 f3 rfl, by simpa using hf 4 f4 rfl, by simpa using hf 5 f5 rfl, by simpa using hf 6 f6 rfl, by simpa using hf 7 f7 rfl, by simpa using hf 8 f8 rfl, by simpa using hf 9 f9 rfl, by simpa using hf 10 f10 rfl, by simpa using hf 11 f11 rfl, by simpa using hf 12 f12 rfl, by simpa using hf 13 f13 rfl⟩
theorem open_row {H : Type} {enc : TypeId × Value → H} {W : World} {k : IntKind} {t e : TypeId} {c : Value} {fuel : Nat} {x : DataW H × List MemPlace} (ht : Try.prog.underlying t = some (.slice e)) (he : Try.prog.underlying e = some (.int k)) (hC : Try.prog.cellsOf e = 1)
    (h : DataW.trod enc Try.prog W 0 (fun _ => true) true fuel t [c] = some x) : ∃ A n d z, c = .slice A n d ∧ IsRow k W A n d z := by
  rcases open_ints ht he hC h with ⟨hcs, _⟩ | ⟨a, l, d, zs, hcs, _, hl, hm, hz, _, hcell, hwz⟩
  · simp only [List.cons.injEq, and_true] at hcs
    exact ⟨none, 0, 0, [], hcs, .inl ⟨rfl, rfl, rfl, rfl⟩⟩
  · simp only [List.cons.injEq, and_true] at hcs
    exact ⟨_, _, _, zs, hcs, .inr ⟨_, rfl, hl, hm, by simpa using hz, hcell, hwz⟩⟩
set_option maxHeartbeats 1000000 in
theorem open_op {H : Type} {enc : TypeId × Value → H} {W : World} {base : Nat} {v : Value} {d : DataW H} {ps : List MemPlace} (hv : Value.okWide Try.prog W .any base 42 v) (h : DataW.Trod enc Try.prog W 0 (fun _ => true) true 42 v d ps) :
    ∃ (hd : Hd) (s : Sc) (z0 z1 z2 z3 : List Int), v = .agg (opv hd s) ∧ s.word < 18446744073709551616 ∧ IsRow .u32 W hd.A0 hd.n0 hd.c0 z0 ∧ IsRow .u32 W hd.A1 hd.n1 hd.c1 z1 ∧ IsRow .i64 W hd.A2 hd.n2 hd.c2 z2 ∧ IsRow .u64 W hd.A3 hd.n3 hd.c3 z3 := by
  obtain ⟨cs, rfl, hsz⟩ := okWide_struct Try.underlying42 hv
  have hC : Try.prog.cellsOf 42 = 20 := by kernel_rfl
  obtain ⟨c0, c1, c2, c3, c4, c5, c6, c7, c8, c9, c10, c11, c12, c13, c14, c15, c16, c17, c18, c19, rfl⟩ := array20 (hsz.trans hC)
  obtain ⟨fuel, hf⟩ := h
  obtain ⟨y0, y1, y2, y3, y4, y5, y6, y7, y8, y9, y10, y11, y12, y13, n, f0, f1, f2, f3, f4, f5, f6, f7, f8, f9, f10, f11, f12, f13⟩ := trod_struct14x Try.underlying42 hf
  have k31 : Try.prog.cellsOf 35 = 3 := by kernel_rfl
  have k35 : Try.prog.cellsOf 39 = 5 := by kernel_rfl
  have k3 : Try.prog.cellsOf 3 = 1 := by kernel_rfl
  have k36 : Try.prog.cellsOf 40 = 1 := by kernel_rfl
  have k4 : Try.prog.cellsOf 4 = 1 := by kernel_rfl
  have k28 : Try.prog.cellsOf 28 = 1 := by kernel_rfl
  have k22 : Try.prog.cellsOf 22 = 1 := by kernel_rfl
  have k29 : Try.prog.cellsOf 33 = 1 := by kernel_rfl
  have k32 : Try.prog.cellsOf 36 = 1 := by kernel_rfl
  have k33 : Try.prog.cellsOf 37 = 1 := by kernel_rfl
  simp only [Value.cells, k31, k35, k3, k36, k4, k28, List.drop_zero, List.drop_succ_cons, List.take_succ_cons, List.take_zero] at f0 f1 f2 f3 f4 f5 f6 f7 f8 f9 f10 f11 f12 f13
  obtain ⟨u0, u1, u2, m, g0, g1, g2⟩ := trod_struct3x Try.underlying35 f0
  obtain ⟨v0, v1, v2, v3, v4, m', q0, q1, q2, q3, q4⟩ := trod_struct5x Try.underlying39 f1
  simp only [k3, k4, k22, k29, k32, k33, List.drop_zero, List.drop_succ_cons, List.take_succ_cons, List.take_zero] at g0 g1 g2 q0 q1 q2 q3 q4
  obtain ⟨kind, e_kind, _, w_kind⟩ := DataW.trod_int Try.underlying3 g0
  obtain ⟨addr, e_addr, _, w_addr⟩ := DataW.trod_int Try.underlying22 g1
  obtain ⟨err, e_err, _, w_err⟩ := DataW.trod_int Try.underlying36 q0
  obtain ⟨aad, e_aad, _, w_aad⟩ := DataW.trod_int Try.underlying22 q1
  obtain ⟨phase, e_phase, _, w_phase⟩ := DataW.trod_int Try.underlying3 f2
  obtain ⟨shard, e_shard, _, w_shard⟩ := DataW.trod_int Try.underlying3 f3
  obtain ⟨sought, e_sought, _, w_sought⟩ := DataW.trod_int Try.underlying3 f4
  obtain ⟨leaf, e_leaf, _, w_leaf⟩ := DataW.trod_int Try.underlying3 f5
  obtain ⟨bit, e_bit, _, w_bit⟩ := DataW.trod_int Try.underlying3 f6
  obtain ⟨word, e_word, _, w_word⟩ := DataW.trod_int Try.underlying40 f7
  obtain ⟨at_, e_at_, _, w_at_⟩ := DataW.trod_int Try.underlying3 f10
  obtain ⟨tries, e_tries, _, w_tries⟩ := DataW.trod_int Try.underlying3 f11
  obtain ⟨item, e_item, _, w_item⟩ := DataW.trod_int Try.underlying3 f12
  obtain ⟨stamp, e_stamp, _, w_stamp⟩ := DataW.trod_int Try.underlying3 f13
  obtain ⟨used, e_used, _⟩ := DataW.trod_bool Try.underlying4 q2
  obtain ⟨full, e_full, _⟩ := DataW.trod_bool Try.underlying4 f8
  obtain ⟨A0, n0, d0, z0, e_s0, r0⟩ := open_row (k := .u32) Try.underlying33 Try.underlying22 k22 g2
  obtain ⟨A1, n1, d1, z1, e_s1, r1⟩ := open_row (k := .u32) Try.underlying33 Try.underlying22 k22 q3
  obtain ⟨A2, n2, d2, z2, e_s2, r2⟩ := open_row (k := .i64) Try.underlying37 Try.underlying36 k32 q4
  obtain ⟨A3, n3, d3, z3, e_s3, r3⟩ := open_row (k := .u64) Try.underlying28 Try.underlying40 k36 f9
  simp only [List.cons.injEq, and_true] at e_kind e_addr e_err e_aad e_phase e_shard e_sought e_leaf e_bit e_word e_at_ e_tries e_item e_stamp e_used e_full
  obtain ⟨X, rfl, hX⟩ := wf_U64 w_word
  subst e_kind e_addr e_err e_aad e_phase e_shard e_sought e_leaf e_bit e_word e_at_ e_tries e_item e_stamp e_used e_full e_s0 e_s1 e_s2 e_s3
  exact ⟨⟨A0, n0, d0, A1, n1, d1, A2, n2, d2, A3, n3, d3⟩, ⟨kind, addr, err, aad, used, phase, shard, sought, leaf, bit, X, full, at_, tries, item, stamp⟩, z0, z1, z2, z3, rfl, hX, r0, r1, r2, r3⟩
end Go.Proofs.Ytafdlofmgefdoaa

