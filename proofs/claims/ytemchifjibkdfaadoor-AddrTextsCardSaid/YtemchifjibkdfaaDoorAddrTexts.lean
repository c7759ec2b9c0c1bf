/-
  The walk of the law AddrTexts: for every address, block and text it answers true. Conditions: the variables of the library as the program's text lays them.
-/
import Derived.Test.YtemchifjibkdfaaDoorAddrAwake
import Derived.Test.YtemchifjibkdfaaDoorAddrRblock
namespace Go.Proofs.YtemchifjibkdfaaDoor.addrTexts
open Go.RowKit
/-- What a region's calls leave: three blocks of two cells, and all that was there. -/
def S6 (w1 w' : World) (g h k : Nat) (a0 a1 b0 b1 c0 c1 : Value) : Prop := w'.cell? ⟨g, 0, none⟩ = some a0 ∧ w'.cell? ⟨g, 1, none⟩ = some a1 ∧ w'.cell? ⟨h, 0, none⟩ = some b0 ∧ w'.cell? ⟨h, 1, none⟩ = some b1 ∧ w'.cell? ⟨k, 0, none⟩ = some c0 ∧ w'.cell? ⟨k, 1, none⟩ = some c1 ∧ Below w1.heap.size w1 w'
theorem s_six {w1 wa wb : World} {g h k : Nat} {a0 a1 b0 b1 c0 c1 : Value} (H : S6 w1 wa g h k a0 a1 b0 b1 c0 c1) (hg : g < w1.heap.size) (hh : h < w1.heap.size) (hk : k < w1.heap.size) (K : Below wa.heap.size wa wb) : S6 w1 wb g h k a0 a1 b0 b1 c0 c1 := by
  obtain ⟨h0, h1, h2, h3, h4, h5, h6⟩ := H
  have hs := h6.size
  refine ⟨?_, ?_, ?_, ?_, ?_, ?_, Below.then_ h6 K⟩
  · rw [K.cell (by show g < _; omega)]; exact h0
  · rw [K.cell (by show g < _; omega)]; exact h1
  · rw [K.cell (by show h < _; omega)]; exact h2
  · rw [K.cell (by show h < _; omega)]; exact h3
  · rw [K.cell (by show k < _; omega)]; exact h4
  · rw [K.cell (by show k < _; omega)]; exact h5
theorem s_laid6 {w1 wa : World} {A B C D E F : Prop} (h : A ∧ B ∧ C ∧ D ∧ E ∧ F ∧ Below w1.heap.size w1 wa) (hw : Laid w1) : Laid wa := hw.below h.2.2.2.2.2.2
set_option maxRecDepth 100000 in
set_option maxHeartbeats 4000000 in
theorem small (a c : Nat) (p : Int) (l : List UInt8) (ha : a < 4294967296) (hc : c < 4294967296) (hl : l.length ≤ 200) (w : World) (hw : Laid w) :
    Calls Tryd.prog 3 #[.int .u32 a, .agg #[.int .u32 c, .int .i64 p], S l] w fun e w' => e = .returned (.bool true) ∧ Below w.heap.size w w' := by
  have hlen : decide ((200 : Int) < (l.length : Int)) = false := by simp; omega
  have T1 := fun w2 h => Lib.hid (text_any a ha w2 h)
  have T2 := fun w2 => Lib.hid (rtext_any a ha w2)
  have M1 := fun w2 => Lib.hid (may_any c hc p w2)
  have M2 := fun w2 => Lib.hid (rmay_any c hc p w2)
  have B1 := fun w2 h => Lib.hid (btext_any c hc p w2 h)
  have B2' := fun w2 => Lib.hid (rbtext_any c hc p w2)
  have P1 := fun w2 => Lib.hid (parse_any l (by omega) w2)
  have P2 := fun w2 => Lib.hid (rparse_any l (by omega) w2)
  have Q1 := fun w2 h => Lib.hid (pblock_any l (by omega) w2 h)
  have Q2 := fun w2 => Lib.hid (rpblock_any l (by omega) w2)
  generalize (if mayB c p = true then btxt c p.toNat else []) = t at B1 B2'
  generalize (if mayB c p = true then (0 : Int) else 2) = te at B1 B2'
  generalize mayB c p = mb at M1 M2
  generalize txt a = ta at T1 T2
  generalize (par l).getD 0 = x at P1 P2
  generalize er (par l) = xe at P1 P2
  unfold bk at Q1 Q2
  generalize ((parB l).getD (0, 0)).1 = y at Q1 Q2
  generalize ((parB l).getD (0, 0)).2 = z at Q1 Q2
  generalize er (parB l) = ye at Q1 Q2
  have G := Lib.hid (B2.new w (.int .u32 c) (.int .i64 p))
  have L0 := below_alloc w (.cells #[.int .u32 c, .int .i64 p] 24)
  go_enter Tryd.func3, Tryd.ntmps3
  go_wp2_with fail
  refine (awake_any _ (hw.below L0)).mono ?_
  rintro e w1 ⟨rfl, K1⟩
  replace G := Lib.hid (G.out.below K1)
  replace K1 := Below.then_ L0 K1
  clear L0
  have g0 := G.out.c0
  have g1 := G.out.c1
  go_wp2_with fail
  refine ((B1 _ (hw.below K1)).out).mono ?_
  rintro e w2 ⟨rfl, K2⟩
  replace G := Lib.hid (G.out.below K2)
  replace K2 := Below.then_ K1 K2
  clear g0 g1 K1
  have g0 := G.out.c0
  have g1 := G.out.c1
  go_wp2_with fail
  refine ((B2' _).out).mono ?_
  rintro e w3 ⟨rfl, K3⟩
  replace G := Lib.hid (G.out.below K3)
  replace K3 := Below.then_ K2 K3
  clear g0 g1 K2
  go_wp2_with fail
  refine ((P1 _).out).mono ?_
  rintro e w4 ⟨rfl, K4⟩
  replace G := Lib.hid (G.out.below K4)
  replace K4 := Below.then_ K3 K4
  clear K3
  go_wp2_with fail
  refine ((P2 _).out).mono ?_
  rintro e w5 ⟨rfl, K5⟩
  replace G := Lib.hid (G.out.below K5)
  replace K5 := Below.then_ K4 K5
  clear K4
  go_wp2_with fail
  refine ((Q1 _ (hw.below K5)).out).mono ?_
  rintro e w6 ⟨rfl, K6⟩
  replace G := Lib.hid ((G.out.below K6).alloc (.cells #[.int .u32 y, .int .i64 z] 24))
  have N := Lib.hid (B2.new w6 (.int .u32 y) (.int .i64 z))
  replace K6 := Below.then_ (Below.then_ K5 K6) (below_alloc w6 (.cells #[.int .u32 y, .int .i64 z] 24))
  clear K5
  go_wp2_with fail
  refine ((Q2 _).out).mono ?_
  rintro e w7 ⟨rfl, K7⟩
  replace G := (G.out.below K7).alloc (.cells #[.int .u32 y, .int .i64 z] 24)
  replace N := (N.out.below K7).alloc (.cells #[.int .u32 y, .int .i64 z] 24)
  have M := B2.new w7 (.int .u32 y) (.int .i64 z)
  replace K7 := Below.then_ (Below.then_ K6 K7) (below_alloc w7 (.cells #[.int .u32 y, .int .i64 z] 24))
  clear K6 B1 B2' P1 P2 Q1 Q2
  have g0 := G.c0
  have g1 := G.c1
  have n0 := N.c0
  have n1 := N.c1
  have m0 := M.c0
  have m1 := M.c1
  have lg := G.lt
  have ln := N.lt
  have lm := M.lt
  have hw7 := hw.below K7
  clear G N M
  go_wp2_with fail
  generalize w7.alloc (.cells #[.int .u32 y, .int .i64 z] 24) = w8 at *
  generalize hgg : w.heap.size = gg at *
  generalize w6.heap.size = gn at *
  generalize w7.heap.size = gm at *
  go_region_held3 (fun w' => w'.cell? ⟨gg, 0, none⟩ = some (.int .u32 c) ∧ w'.cell? ⟨gg, 1, none⟩ = some (.int .i64 p) ∧ w'.cell? ⟨gn, 0, none⟩ = some (.int .u32 y) ∧ w'.cell? ⟨gn, 1, none⟩ = some (.int .i64 z) ∧ w'.cell? ⟨gm, 0, none⟩ = some (.int .u32 y) ∧ w'.cell? ⟨gm, 1, none⟩ = some (.int .i64 z) ∧ Below w8.heap.size w8 w') (first | assumption | exact ⟨g0, g1, n0, n1, m0, m1, (Below.refl _ _).drew⟩ | exact s_six (by assumption) lg ln lm K')
    (first | (go_at_call 15; refine ((T1 _ (s_laid6 (by assumption) hw7)).out).mono ?_; rintro e w' ⟨rfl, K'⟩) | (go_at_call 16; refine ((T2 _).out).mono ?_; rintro e w' ⟨rfl, K'⟩) | (go_at_call 17; refine ((M1 _).out).mono ?_; rintro e w' ⟨rfl, K'⟩) | (go_at_call 18; refine ((M2 _).out).mono ?_; rintro e w' ⟨rfl, K'⟩))
  rename_i hS
  go_wp2
  go_ret
  subst hgg
  exact ⟨rfl, Below.then_ K7 hS.2.2.2.2.2.2⟩
theorem long (a c : Nat) (p : Int) (l : List UInt8) (hl : 200 < l.length) (hl2 : l.length ≤ 9223372036854775807) (w : World) (hw : Laid w) :
    Calls Tryd.prog 3 #[.int .u32 a, .agg #[.int .u32 c, .int .i64 p], S l] w fun e w' => e = .returned (.bool true) ∧ Below w.heap.size w w' := by
  have hlen : decide ((200 : Int) < (l.length : Int)) = true := by simp; omega
  have L0 := below_alloc w (.cells #[.int .u32 c, .int .i64 p] 24)
  go_enter Tryd.func3, Tryd.ntmps3
  go_wp2_with fail
  refine (awake_any _ (hw.below L0)).mono ?_
  rintro e w1 ⟨rfl, K1⟩
  replace K1 := Below.then_ L0 K1
  go_wp2_with fail
  refine (awake_any _ (hw.below K1)).mono ?_
  rintro e w2 ⟨rfl, K2⟩
  go_wp2
  go_ret
  exact ⟨rfl, Below.then_ K1 K2⟩
theorem walk (a0 a1 b1 : Int) (s2 : ByteArray) (w : World) (w0 : (Lit.int .u32 a0).wf = true) (w1 : (Lit.int .u32 a1).wf = true) (_wb : (Lit.int .i64 b1).wf = true) (ws : s2.size ≤ maxLen) (hw : Laid w) :
    Calls Tryd.prog 3 #[.int .u32 a0, .agg #[.int .u32 a1, .int .i64 b1], .string s2] w fun e w' => e = .returned (.bool true) ∧ Below w.heap.size w w' := by
  obtain ⟨a, rfl, ha⟩ := wf_u32 w0
  obtain ⟨c, rfl, hc⟩ := wf_u32 w1
  obtain ⟨l, rfl⟩ : ∃ l : List UInt8, s2 = ⟨l.toArray⟩ := ⟨s2.data.toList, (Lib.mk_data s2).symm⟩
  rw [size_mk] at ws
  unfold maxLen at ws
  by_cases hl : l.length ≤ 200
  · exact small a c b1 l ha hc hl w hw
  · exact long a c b1 l (by omega) (by omega) w hw
end Go.Proofs.YtemchifjibkdfaaDoor.addrTexts
