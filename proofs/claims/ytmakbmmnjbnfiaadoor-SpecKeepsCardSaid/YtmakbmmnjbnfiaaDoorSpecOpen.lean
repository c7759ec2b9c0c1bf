/-
  What a law is told of an answer that came in.
-/
import Derived.Test.YtmakbmmnjbnfiaaDoorSpecAwake
import Derived.Test.YtmakbmmnjbnfiaaDoorHintOpen
namespace Go.Proofs.YtmakbmmnjbnfiaaDoor
open Go.ChangeShapes Go.WideShapes Go.ChangeAt Go.RowKit Go.Joins
theorem array5 {α : Type} {cs : Array α} (h : cs.size = 5) : ∃ c0 c1 c2 c3 c4, cs = #[c0, c1, c2, c3, c4] := by
  obtain ⟨l⟩ := cs
  match l, h with
  | [c0, c1, c2, c3, c4], _ => exact ⟨c0, c1, c2, c3, c4, rfl⟩
theorem open_answer {H : Type} {enc : TypeId × Value → H} {W : World} {base : Nat} {v : Value} {d : DataW H} {ps : List MemPlace} (hv : Value.okWide Tryd.prog W .any base 34 v) (h : DataW.Trod enc Tryd.prog W 0 (fun _ => true) true 34 v d ps) :
    ∃ (e x : Int) (u : Bool) (B : Option Addr) (m d : Nat) (y : List Int) (C : Option Addr) (q f : Nat) (g : List Int), v = .agg #[.int .i64 e, .int .u32 x, .bool u, .slice B m d, .slice C q f] ∧ (Lit.int .u32 x).wf = true ∧ IsRow .u32 W B m d y ∧ IsRow .i64 W C q f g := by
  obtain ⟨cs, rfl, hsz⟩ := okWide_struct Tryd.underlying34 hv
  have hC : Tryd.prog.cellsOf 34 = 5 := by kernel_rfl
  obtain ⟨c0, c1, c2, c3, c4, rfl⟩ := array5 (hsz.trans hC)
  obtain ⟨fuel, hf⟩ := h
  obtain ⟨v0, v1, v2, v3, v4, m', q0, q1, q2, q3, q4⟩ := trod_struct5x Tryd.underlying34 hf
  have k4 : Tryd.prog.cellsOf 4 = 1 := by kernel_rfl
  have k22 : Tryd.prog.cellsOf 22 = 1 := by kernel_rfl
  have k29 : Tryd.prog.cellsOf 28 = 1 := by kernel_rfl
  have k32 : Tryd.prog.cellsOf 31 = 1 := by kernel_rfl
  have k33 : Tryd.prog.cellsOf 32 = 1 := by kernel_rfl
  simp only [Value.cells, k4, k22, k29, k32, k33, List.drop_zero, List.drop_succ_cons, List.take_succ_cons, List.take_zero] at q0 q1 q2 q3 q4
  obtain ⟨err, e_err, _, _⟩ := DataW.trod_int Tryd.underlying31 q0
  obtain ⟨aad, e_aad, _, w_aad⟩ := DataW.trod_int Tryd.underlying22 q1
  obtain ⟨used, e_used, _⟩ := DataW.trod_bool Tryd.underlying4 q2
  obtain ⟨A1, n1, d1, z1, e_s1, r1⟩ := open_row (k := .u32) Tryd.underlying28 Tryd.underlying22 k22 q3
  obtain ⟨A2, n2, d2, z2, e_s2, r2⟩ := open_row (k := .i64) Tryd.underlying32 Tryd.underlying31 k32 q4
  simp only [List.cons.injEq, and_true] at e_err e_aad e_used
  subst e_err e_aad e_used e_s1 e_s2
  exact ⟨err, aad, used, A1, n1, d1, z1, A2, n2, d2, z2, rfl, w_aad, r1, r2⟩
end Go.Proofs.YtmakbmmnjbnfiaaDoor
