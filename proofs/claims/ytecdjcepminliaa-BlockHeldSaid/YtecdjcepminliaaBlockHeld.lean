/-
  The walk of the law BlockHeld: for every configuration and number it answers true.
-/
import Derived.Test.YtecdjcepminliaaBlockAwake
import Derived.Test.YtecdjcepminliaaBlockMath
namespace Go.Proofs.Ytecdjcepminliaa.blockHeld
open Go.RowKit
theorem take_is {k : IntKind} {lo : Nat} {w : World} {A : Option Addr} {n c d : Nat} {xs : List Int} (h : IS k lo w A n c xs) (hd : d ≤ n) : IS k lo w A d c (xs.take d) :=
  ⟨by rw [List.length_take, h.len]; omega, by have := h.cap; omega, h.most, h.nil_, fun hn => by
    obtain ⟨b, o, e, hl, hlt, hc⟩ := h.cells (by omega)
    refine ⟨b, o, e, hl, hlt, fun j hj => ?_⟩
    rw [hc j (by omega)]
    unfold gi
    simp [List.getD_eq_getElem?_getD, hj]⟩
theorem oper_append_run {P : Program} {w : World} {o : Oper} {a : Act} {K : Act → World → Prop} {Q : Exit → Act → World → Prop} (s x : Operand) (t : TypeId)
    (ho : o.op = .call { callee := .builtin .append, args := #[s, x], argTypes := #[t, t] }) (u v v' : Value) (w' : World) (hs : a.eval s = u) (hx : a.eval x = v)
    (hrun : (Builtin.append_ #[t, t] o.type #[u, v]).run P w = .ok v' w') (h : K (a.put o.dst v') w') : Oper.wp P o a w K Q := by
  unfold Oper.wp
  simp [execOp, ho, resolve, invoke, builtin, hs, hx, hrun, Result.andThen]
  exact h
theorem int_info : (Try.prog.info? 3).map (fun i => (i.zero, i.size, i.bytes)) = some (some (Value.int .i64 0), 1, 8) := by kernel_rfl
theorem info_parts {P : Program} {e : TypeId} {z : Value} {s b : Nat} (h : (P.info? e).map (fun i => (i.zero, i.size, i.bytes)) = some (some z, s, b)) : ∃ i, P.info? e = some i ∧ i.zero = some z ∧ i.size = s ∧ i.bytes = b := by
  cases hi : P.info? e with
  | none => rw [hi] at h; cases h
  | some i =>
    rw [hi] at h
    simp only [Option.map_some, Option.some.injEq, Prod.mk.injEq] at h
    exact ⟨i, rfl, h.1, h.2.1, h.2.2⟩
theorem may_is {w : World} {lo a : Nat} {p sh wo qu tr : Int} {A : Option Addr} {n c : Nat} {xs : List Int} {b : Bool} (ha : a < 4294967296) (h : IS .i64 lo w A n c xs) (hn : n ≤ 65536) (hb : confB a p n xs sh wo qu tr = b) :
    Calls Try.prog 9 #[.agg #[.int .u32 a, .int .i64 p, .slice A n c, .int .i64 sh, .int .i64 wo, .int .i64 qu, .int .i64 tr]] w fun e w' => e = .returned (.bool b) ∧ Below w.heap.size w w' := by
  subst hb; exact may_any ha h hn
theorem bk_set {w : World} {g : Nat} {t : TypeId} {x0 x1 x2 x3 x4 x5 x6 u : Value} (h : Bk w g t #[x0, x1, x2, x3, x4, x5, x6]) : Bk (w.setCell ⟨g, 2, none⟩ u) g t #[x0, x1, u, x3, x4, x5, x6] := by
  unfold Bk at h ⊢
  simp [World.setCell, Array.getElem?_modify, h]
section
variable {w : World} {lo a M f r ee b o n1 : Nat} {p sh wo qu tr : Int} {A : Option Addr} {n c : Nat} {xs ys : List Int}
theorem not_may (ha : a < 4294967296) (h : IS .i64 lo w A n c xs) (hb : confB a p n xs sh wo qu tr = false) :
    Calls Try.prog 6 #[.agg #[.int .u32 a, .int .i64 p, .slice A n c, .int .i64 sh, .int .i64 wo, .int .i64 qu, .int .i64 tr], .int .u8 f] w fun e w' => e = .returned (.bool true) ∧ Below w.heap.size w w' := by
  have hb := Lib.hid hb
  have K := below_alloc w (.cells #[.int .u32 a, .int .i64 p, .slice A n c, .int .i64 sh, .int .i64 wo, .int .i64 qu, .int .i64 tr] 27)
  have H := Bk.new w #[.int .u32 a, .int .i64 p, .slice A n c, .int .i64 sh, .int .i64 wo, .int .i64 qu, .int .i64 tr] 27
  replace h := h.below K
  go_enter Try.func6, Try.ntmps6
  go_wp2_with fail
  generalize w.alloc (.cells #[.int .u32 a, .int .i64 p, .slice A n c, .int .i64 sh, .int .i64 wo, .int .i64 qu, .int .i64 tr] 27) = w1 at H K h ⊢
  generalize w.heap.size = g at H ⊢
  refine (awake_any _).mono ?_
  rintro e w2 ⟨rfl, K'⟩
  replace H := H.below K'
  replace h := h.below K'
  replace K := Below.then_ K K'
  clear K'
  have H_0 := H.at_ (v := .int .u32 a) 0 rfl
  have H_1 := H.at_ (v := .int .i64 p) 1 rfl
  have H_2 := H.at_ (v := .slice A n c) 2 rfl
  have H_3 := H.at_ (v := .int .i64 sh) 3 rfl
  have H_4 := H.at_ (v := .int .i64 wo) 4 rfl
  have H_5 := H.at_ (v := .int .i64 qu) 5 rfl
  have H_6 := H.at_ (v := .int .i64 tr) 6 rfl
  have H_z := H.lt
  go_wp2_with fail
  refine (rmay_is ha h hb.out).mono ?_
  rintro e w3 ⟨rfl, K'⟩
  clear H_0 H_1 H_2 H_3 H_4 H_5 H_6 H_z
  replace H := H.below K'
  replace h := h.below K'
  replace K := Below.then_ K K'
  clear K'
  go_wp2_with fail
  refine (awake_any _).mono ?_
  rintro e w4 ⟨rfl, K'⟩
  replace H := H.below K'
  replace h := h.below K'
  replace K := Below.then_ K K'
  clear K'
  go_wp2
  go_ret
  exact ⟨rfl, K⟩
theorem great (ha : a < 4294967296) (h : IS .i64 lo w A n c xs) (hb : confB a p n xs sh wo qu tr = true) (hM : Much a p M) (hm : 4096 < M) :
    Calls Try.prog 6 #[.agg #[.int .u32 a, .int .i64 p, .slice A n c, .int .i64 sh, .int .i64 wo, .int .i64 qu, .int .i64 tr], .int .u8 f] w fun e w' => e = .returned (.bool true) ∧ Below w.heap.size w w' := by
  have hb := Lib.hid hb
  have e1 : decide ((4096 : Int) < (M : Int)) = true := by simp; omega
  have K := below_alloc w (.cells #[.int .u32 a, .int .i64 p, .slice A n c, .int .i64 sh, .int .i64 wo, .int .i64 qu, .int .i64 tr] 27)
  have H := Bk.new w #[.int .u32 a, .int .i64 p, .slice A n c, .int .i64 sh, .int .i64 wo, .int .i64 qu, .int .i64 tr] 27
  replace h := h.below K
  go_enter Try.func6, Try.ntmps6
  go_wp2_with fail
  generalize w.alloc (.cells #[.int .u32 a, .int .i64 p, .slice A n c, .int .i64 sh, .int .i64 wo, .int .i64 qu, .int .i64 tr] 27) = w1 at H K h ⊢
  generalize w.heap.size = g at H ⊢
  refine (awake_any _).mono ?_
  rintro e w2 ⟨rfl, K'⟩
  replace H := H.below K'
  replace h := h.below K'
  replace K := Below.then_ K K'
  clear K'
  have H_0 := H.at_ (v := .int .u32 a) 0 rfl
  have H_1 := H.at_ (v := .int .i64 p) 1 rfl
  have H_2 := H.at_ (v := .slice A n c) 2 rfl
  have H_3 := H.at_ (v := .int .i64 sh) 3 rfl
  have H_4 := H.at_ (v := .int .i64 wo) 4 rfl
  have H_5 := H.at_ (v := .int .i64 qu) 5 rfl
  have H_6 := H.at_ (v := .int .i64 tr) 6 rfl
  have H_z := H.lt
  go_wp2_with fail
  refine (rmay_is ha h hb.out).mono ?_
  rintro e w3 ⟨rfl, K'⟩
  clear H_0 H_1 H_2 H_3 H_4 H_5 H_6 H_z
  replace H := H.below K'
  replace h := h.below K'
  replace K := Below.then_ K K'
  clear K'
  have H_0 := H.at_ (v := .int .u32 a) 0 rfl
  have H_1 := H.at_ (v := .int .i64 p) 1 rfl
  have H_2 := H.at_ (v := .slice A n c) 2 rfl
  have H_3 := H.at_ (v := .int .i64 sh) 3 rfl
  have H_4 := H.at_ (v := .int .i64 wo) 4 rfl
  have H_5 := H.at_ (v := .int .i64 qu) 5 rfl
  have H_6 := H.at_ (v := .int .i64 tr) 6 rfl
  have H_z := H.lt
  go_wp2_with fail
  refine (many_yes ha hM).mono ?_
  rintro e w4 ⟨rfl, K'⟩
  clear H_0 H_1 H_2 H_3 H_4 H_5 H_6 H_z
  replace H := H.below K'
  replace h := h.below K'
  replace K := Below.then_ K K'
  clear K'
  go_wp2_with fail
  refine (awake_any _).mono ?_
  rintro e w5 ⟨rfl, K'⟩
  replace H := H.below K'
  replace h := h.below K'
  replace K := Below.then_ K K'
  clear K'
  go_wp2
  go_ret
  exact ⟨rfl, K⟩
set_option maxRecDepth 100000 in
set_option maxHeartbeats 1000000 in
theorem empty (ha : a < 4294967296) (h : IS .i64 lo w A n c xs) (hb : confB a p n xs sh wo qu tr = true) (hM : Much a p M) (hm : M ≤ 4096) (EN : cn xs M = n) (hn : n = 0) :
    Calls Try.prog 6 #[.agg #[.int .u32 a, .int .i64 p, .slice A n c, .int .i64 sh, .int .i64 wo, .int .i64 qu, .int .i64 tr], .int .u8 f] w fun e w' => e = .returned (.bool true) ∧ Below w.heap.size w w' := by
  have f1 : ((n : Int) != (n : Int)) = false := by simp
  have f2 : IntKind.i64.wrap ((M : Int) - (n : Int)) = (M : Int) - (n : Int) := IntWalk.i64_in _ (by omega)
  have f3 : (((M : Int) - (n : Int)) != ((M : Int) - (n : Int))) = false := by simp
  have f4 : ((n : Int) == 0) = true := by simp; omega
  have hn64 : n ≤ 64 := by omega
  clear hn
  replace hb := Lib.hid hb
  have hp := hM.pos
  have hl := h.len
  have e1 : decide ((4096 : Int) < (M : Int)) = false := by simp; omega
  replace EN := Lib.hid EN
  have K := below_alloc w (.cells #[.int .u32 a, .int .i64 p, .slice A n c, .int .i64 sh, .int .i64 wo, .int .i64 qu, .int .i64 tr] 27)
  have H := Bk.new w #[.int .u32 a, .int .i64 p, .slice A n c, .int .i64 sh, .int .i64 wo, .int .i64 qu, .int .i64 tr] 27
  replace h := h.below K
  go_enter Try.func6, Try.ntmps6
  go_wp2_with fail
  generalize w.alloc (.cells #[.int .u32 a, .int .i64 p, .slice A n c, .int .i64 sh, .int .i64 wo, .int .i64 qu, .int .i64 tr] 27) = w1 at H K h ⊢
  generalize w.heap.size = g at H ⊢
  refine (awake_any _).mono ?_
  rintro e w2 ⟨rfl, K'⟩
  replace H := H.below K'
  replace h := h.below K'
  replace K := Below.then_ K K'
  clear K'
  have H_0 := H.at_ (v := .int .u32 a) 0 rfl
  have H_1 := H.at_ (v := .int .i64 p) 1 rfl
  have H_2 := H.at_ (v := .slice A n c) 2 rfl
  have H_3 := H.at_ (v := .int .i64 sh) 3 rfl
  have H_4 := H.at_ (v := .int .i64 wo) 4 rfl
  have H_5 := H.at_ (v := .int .i64 qu) 5 rfl
  have H_6 := H.at_ (v := .int .i64 tr) 6 rfl
  have H_z := H.lt
  go_wp2_with fail
  refine (rmay_is ha h hb.out).mono ?_
  rintro e w3 ⟨rfl, K'⟩
  clear H_0 H_1 H_2 H_3 H_4 H_5 H_6 H_z
  replace H := H.below K'
  replace h := h.below K'
  replace K := Below.then_ K K'
  clear K'
  have H_0 := H.at_ (v := .int .u32 a) 0 rfl
  have H_1 := H.at_ (v := .int .i64 p) 1 rfl
  have H_2 := H.at_ (v := .slice A n c) 2 rfl
  have H_3 := H.at_ (v := .int .i64 sh) 3 rfl
  have H_4 := H.at_ (v := .int .i64 wo) 4 rfl
  have H_5 := H.at_ (v := .int .i64 qu) 5 rfl
  have H_6 := H.at_ (v := .int .i64 tr) 6 rfl
  have H_z := H.lt
  go_wp2_with fail
  refine (many_yes ha hM).mono ?_
  rintro e w4 ⟨rfl, K'⟩
  clear H_0 H_1 H_2 H_3 H_4 H_5 H_6 H_z
  replace H := H.below K'
  replace h := h.below K'
  replace K := Below.then_ K K'
  clear K'
  go_wp2_with fail
  go_loopw [5, 6] (fun s i wr => ∃ k : Nat, k ≤ M ∧ i = .int .i64 k ∧ s = .int .i64 (cn xs k : Nat) ∧ Below w4.heap.size w4 wr) (fun _ i _ => M - (intOf i).toNat)
  case atStart => exact ⟨0, Nat.zero_le _, rfl, rfl, Below.refl _ _⟩
  case round =>
    obtain ⟨k, hk, rfl, hs, Kr⟩ := hrel
    replace H := H.below Kr
    replace h := h.below Kr
    replace K := Below.then_ K Kr
    by_cases hlt : k < M
    · have hc0 := cn_le xs k
      subst hs
      have KR := Kr
      have H_0 := H.at_ (v := .int .u32 a) 0 rfl
      have H_1 := H.at_ (v := .int .i64 p) 1 rfl
      have H_2 := H.at_ (v := .slice A n c) 2 rfl
      have H_3 := H.at_ (v := .int .i64 sh) 3 rfl
      have H_4 := H.at_ (v := .int .i64 wo) 4 rfl
      have H_5 := H.at_ (v := .int .i64 qu) 5 rfl
      have H_6 := H.at_ (v := .int .i64 tr) 6 rfl
      have H_z := H.lt
      go_wp2_with fail
      refine (many_yes ha hM).mono ?_
      rintro e w15 ⟨rfl, K'⟩
      clear H_0 H_1 H_2 H_3 H_4 H_5 H_6 H_z
      replace H := H.below K'
      replace h := h.below K'
      replace KR := Below.then_ KR K'
      replace K := Below.then_ K K'
      clear K'
      cases hh : hasB xs (k : Int) with
      | true =>
        have E := Lib.hid (cn_yes hh)
        have H_0 := H.at_ (v := .int .u32 a) 0 rfl
        have H_1 := H.at_ (v := .int .i64 p) 1 rfl
        have H_2 := H.at_ (v := .slice A n c) 2 rfl
        have H_3 := H.at_ (v := .int .i64 sh) 3 rfl
        have H_4 := H.at_ (v := .int .i64 wo) 4 rfl
        have H_5 := H.at_ (v := .int .i64 qu) 5 rfl
        have H_6 := H.at_ (v := .int .i64 tr) 6 rfl
        have H_z := H.lt
        go_wp2_with fail
        refine (held_is h (by omega) hh).mono ?_
        rintro e w16 ⟨rfl, K'⟩
        clear H_0 H_1 H_2 H_3 H_4 H_5 H_6 H_z
        replace H := H.below K'
        replace h := h.below K'
        replace KR := Below.then_ KR K'
        replace K := Below.then_ K K'
        clear K'
        go_wp2
        go_roundw
        case rel => exact ⟨k + 1, by omega, by go_num, by rw [E.out]; go_num, KR⟩
        case measure => simp [intOf]; omega
      | false =>
        have E := Lib.hid (cn_no hh)
        have H_0 := H.at_ (v := .int .u32 a) 0 rfl
        have H_1 := H.at_ (v := .int .i64 p) 1 rfl
        have H_2 := H.at_ (v := .slice A n c) 2 rfl
        have H_3 := H.at_ (v := .int .i64 sh) 3 rfl
        have H_4 := H.at_ (v := .int .i64 wo) 4 rfl
        have H_5 := H.at_ (v := .int .i64 qu) 5 rfl
        have H_6 := H.at_ (v := .int .i64 tr) 6 rfl
        have H_z := H.lt
        go_wp2_with fail
        refine (held_is h (by omega) hh).mono ?_
        rintro e w16 ⟨rfl, K'⟩
        clear H_0 H_1 H_2 H_3 H_4 H_5 H_6 H_z
        replace H := H.below K'
        replace h := h.below K'
        replace KR := Below.then_ KR K'
        replace K := Below.then_ K K'
        clear K'
        go_wp2
        go_roundw
        case rel => exact ⟨k + 1, by omega, by go_num, by rw [E.out], KR⟩
        case measure => simp [intOf]; omega
    · obtain rfl : k = M := by omega
      rw [EN.out] at hs
      subst hs
      clear EN Kr
      have H_0 := H.at_ (v := .int .u32 a) 0 rfl
      have H_1 := H.at_ (v := .int .i64 p) 1 rfl
      have H_2 := H.at_ (v := .slice A n c) 2 rfl
      have H_3 := H.at_ (v := .int .i64 sh) 3 rfl
      have H_4 := H.at_ (v := .int .i64 wo) 4 rfl
      have H_5 := H.at_ (v := .int .i64 qu) 5 rfl
      have H_6 := H.at_ (v := .int .i64 tr) 6 rfl
      have H_z := H.lt
      go_wp2_with fail
      refine (many_yes ha hM).mono ?_
      rintro e w25 ⟨rfl, K'⟩
      clear H_0 H_1 H_2 H_3 H_4 H_5 H_6 H_z
      replace H := H.below K'
      replace h := h.below K'
      replace K := Below.then_ K K'
      clear K'
      have HZ := H.lt
      go_wp2_with fail
      refine wp_region_held_drew (S := fun w' => Below w25.heap.size w25 w') (by kernel_rfl) (Below.refl _ _).drew (fun hHeld => ?_)
      refine wpAnyH_take (i := 0) (oi := ⟨some 35, _, _, _, _, _⟩) (v := ?_) rfl (by kernel_rfl) (by kernel_rfl) (by kernel_rfl) (fun _ _ _ h => h) (Or.inl ⟨by rfl, ?_⟩) hHeld ?_
      rotate_left
      · intro ww hSw
        try dsimp only at hSw
        go_simp
        try with_reducible rfl
        try omega
      try simp only [Act.put, List.setIfInBounds_toArray, List.set_cons_zero, List.set_cons_succ]
      refine wpAnyH_take (i := 1) (oi := ⟨some 36, _, _, _, _, _⟩) (v := ?_) rfl (by kernel_rfl) (by kernel_rfl) (by kernel_rfl) (fun _ _ _ h => h) (Or.inl ⟨by rfl, ?_⟩) hHeld ?_
      rotate_left
      · intro ww hSw
        try dsimp only at hSw
        go_simp
        try with_reducible rfl
        try omega
      try simp only [Act.put, List.setIfInBounds_toArray, List.set_cons_zero, List.set_cons_succ]
      refine wpAnyH_take (i := 2) (oi := ⟨some 37, _, _, _, _, _⟩) (v := ?_) rfl (by kernel_rfl) (by kernel_rfl) (by kernel_rfl) (fun _ _ _ h => h) (Or.inl ⟨by rfl, ?_⟩) hHeld ?_
      rotate_left
      · intro ww hSw
        try dsimp only at hSw
        have H_0 := (H.below hSw).at_ (v := .int .u32 a) 0 rfl
        have H_1 := (H.below hSw).at_ (v := .int .i64 p) 1 rfl
        have H_2 := (H.below hSw).at_ (v := .slice A n c) 2 rfl
        have H_3 := (H.below hSw).at_ (v := .int .i64 sh) 3 rfl
        have H_4 := (H.below hSw).at_ (v := .int .i64 wo) 4 rfl
        have H_5 := (H.below hSw).at_ (v := .int .i64 qu) 5 rfl
        have H_6 := (H.below hSw).at_ (v := .int .i64 tr) 6 rfl
        go_simp
        try with_reducible rfl
        try omega
      try simp only [Act.put, List.setIfInBounds_toArray, List.set_cons_zero, List.set_cons_succ]
      refine wpAnyH_take (i := 3) (oi := ⟨some 38, _, _, _, _, _⟩) (v := ?_) rfl (by kernel_rfl) (by kernel_rfl) (by kernel_rfl) (fun _ _ _ h => h) (Or.inl ⟨by rfl, ?_⟩) hHeld ?_
      rotate_left
      · intro ww hSw
        try dsimp only at hSw
        go_simp
        try with_reducible rfl
        try omega
      try simp only [Act.put, List.setIfInBounds_toArray, List.set_cons_zero, List.set_cons_succ]
      refine wpAnyH_take (i := 4) (oi := ⟨some 39, _, _, _, _, _⟩) (v := .bool false) rfl (by kernel_rfl) (by kernel_rfl) (by kernel_rfl) (fun _ _ _ h => h) (Or.inl ⟨by rfl, ?_⟩) hHeld ?_
      · intro ww hSw
        try dsimp only at hSw
        go_simp
        try with_reducible rfl
        try omega
      try simp only [Act.put, List.setIfInBounds_toArray, List.set_cons_zero, List.set_cons_succ]
      refine wpAnyH_take (i := 5) (oi := ⟨some 40, _, _, _, _, _⟩) (v := .bool false) rfl (by kernel_rfl) (by kernel_rfl) (by kernel_rfl) (fun _ _ _ h => h) (Or.inl ⟨by rfl, ?_⟩) hHeld ?_
      · intro ww hSw
        try dsimp only at hSw
        go_simp
        try with_reducible rfl
        try omega
      try simp only [Act.put, List.setIfInBounds_toArray, List.set_cons_zero, List.set_cons_succ]
      refine wpAnyH_take (i := 6) (oi := ⟨some 41, _, _, _, _, _⟩) (v := ?_) rfl (by kernel_rfl) (by kernel_rfl) (by kernel_rfl) (fun _ _ _ h => h) (Or.inl ⟨by rfl, ?_⟩) hHeld ?_
      rotate_left
      · intro ww hSw
        try dsimp only at hSw
        have H_0 := (H.below hSw).at_ (v := .int .u32 a) 0 rfl
        have H_1 := (H.below hSw).at_ (v := .int .i64 p) 1 rfl
        have H_2 := (H.below hSw).at_ (v := .slice A n c) 2 rfl
        have H_3 := (H.below hSw).at_ (v := .int .i64 sh) 3 rfl
        have H_4 := (H.below hSw).at_ (v := .int .i64 wo) 4 rfl
        have H_5 := (H.below hSw).at_ (v := .int .i64 qu) 5 rfl
        have H_6 := (H.below hSw).at_ (v := .int .i64 tr) 6 rfl
        go_simp
        try with_reducible rfl
        try omega
      try simp only [Act.put, List.setIfInBounds_toArray, List.set_cons_zero, List.set_cons_succ]
      refine wpAnyH_take (i := 8) (oi := ⟨some 43, _, _, _, _, _⟩) (v := ?_) rfl (by kernel_rfl) (by kernel_rfl) (by kernel_rfl) (fun _ _ _ h => h) (Or.inl ⟨by rfl, ?_⟩) hHeld ?_
      rotate_left
      · intro ww hSw
        try dsimp only at hSw
        go_simp
        try with_reducible rfl
        try omega
      try simp only [Act.put, List.setIfInBounds_toArray, List.set_cons_zero, List.set_cons_succ]
      refine wpAnyH_take (i := 9) (oi := ⟨some 44, _, _, _, _, _⟩) (v := ?_) rfl (by kernel_rfl) (by kernel_rfl) (by kernel_rfl) (fun _ _ _ h => h) (Or.inl ⟨by rfl, ?_⟩) hHeld ?_
      rotate_left
      · intro ww hSw
        try dsimp only at hSw
        have H_0 := (H.below hSw).at_ (v := .int .u32 a) 0 rfl
        have H_1 := (H.below hSw).at_ (v := .int .i64 p) 1 rfl
        have H_2 := (H.below hSw).at_ (v := .slice A n c) 2 rfl
        have H_3 := (H.below hSw).at_ (v := .int .i64 sh) 3 rfl
        have H_4 := (H.below hSw).at_ (v := .int .i64 wo) 4 rfl
        have H_5 := (H.below hSw).at_ (v := .int .i64 qu) 5 rfl
        have H_6 := (H.below hSw).at_ (v := .int .i64 tr) 6 rfl
        go_simp
        try with_reducible rfl
        try omega
      try simp only [Act.put, List.setIfInBounds_toArray, List.set_cons_zero, List.set_cons_succ]
      refine wpAnyH_take (i := 11) (oi := ⟨some 46, _, _, _, _, _⟩) (v := ?_) rfl (by kernel_rfl) (by kernel_rfl) (by kernel_rfl) (fun _ _ _ h => h) (Or.inl ⟨by rfl, ?_⟩) hHeld ?_
      rotate_left
      · intro ww hSw
        try dsimp only at hSw
        go_simp
        try with_reducible rfl
        try omega
      try simp only [Act.put, List.setIfInBounds_toArray, List.set_cons_zero, List.set_cons_succ]
      refine wpAnyH_ready (rs := [7]) (by kernel_rfl) (by simp) ?_
      refine AllReadyH.cons (o := ⟨some 42, _, _, _, _, _⟩) rfl (fun K0 hK => ?_) AllReadyH.nil
      go_simp
      refine (usable_any ha hM (by omega)).mono ?_
      rintro e ww ⟨rfl, K'⟩
      refine hK.out _ _ (Below.then_ hHeld K') (fun hHeld' => ?_)
      clear hHeld K' hK K0
      have hHeld := hHeld'
      clear hHeld'
      try simp only [Act.put, List.setIfInBounds_toArray, List.set_cons_zero, List.set_cons_succ]
      refine wpAnyH_ready (rs := [10]) (by kernel_rfl) (by simp) ?_
      refine AllReadyH.cons (o := ⟨some 45, _, _, _, _, _⟩) rfl (fun K0 hK => ?_) AllReadyH.nil
      go_simp
      refine (many_yes ha hM).mono ?_
      rintro e ww ⟨rfl, K'⟩
      refine hK.out _ _ (Below.then_ hHeld K') (fun hHeld' => ?_)
      clear hHeld K' hK K0
      have hHeld := hHeld'
      clear hHeld'
      try simp only [Act.put, List.setIfInBounds_toArray, List.set_cons_zero, List.set_cons_succ]
      refine wpAnyH_take (i := 12) (oi := ⟨some 47, _, _, _, _, _⟩) (v := .int .i64 ((k : Int) - (n : Int))) rfl (by kernel_rfl) (by kernel_rfl) (by kernel_rfl) (fun _ _ _ h => h) (Or.inl ⟨by rfl, ?_⟩) hHeld ?_
      · intro ww hSw
        try dsimp only at hSw
        go_simp
        try with_reducible rfl
        try omega
      try simp only [Act.put, List.setIfInBounds_toArray, List.set_cons_zero, List.set_cons_succ]
      refine wpAnyH_take (i := 13) (oi := ⟨some 48, _, _, _, _, _⟩) (v := .bool false) rfl (by kernel_rfl) (by kernel_rfl) (by kernel_rfl) (fun _ _ _ h => h) (Or.inl ⟨by rfl, ?_⟩) hHeld ?_
      · intro ww hSw
        try dsimp only at hSw
        go_simp
        try with_reducible rfl
        try omega
      try simp only [Act.put, List.setIfInBounds_toArray, List.set_cons_zero, List.set_cons_succ]
      refine wpAnyH_take (i := 14) (oi := ⟨some 49, _, _, _, _, _⟩) (v := .bool false) rfl (by kernel_rfl) (by kernel_rfl) (by kernel_rfl) (fun _ _ _ h => h) (Or.inl ⟨by rfl, ?_⟩) hHeld ?_
      · intro ww hSw
        try dsimp only at hSw
        go_simp
        try with_reducible rfl
        try omega
      try simp only [Act.put, List.setIfInBounds_toArray, List.set_cons_zero, List.set_cons_succ]
      refine wpAnyH_done (by kernel_rfl) ?_ _
      replace H := H.below hHeld
      replace h := h.below hHeld
      replace K := Below.then_ K hHeld
      clear hHeld
      go_wp2
      go_ret
      exact ⟨rfl, K⟩
set_option maxRecDepth 100000 in
set_option maxHeartbeats 1000000 in
theorem some_ne (ha : a < 4294967296) (h : IS .i64 lo w (some ⟨b, o, none⟩) n c xs) (hb : confB a p n xs sh wo qu tr = true) (hM : Much a p M) (hm : M ≤ 4096) (EN : cn xs M = n) (hn64 : n ≤ 64) (hn : 0 < n) (hf : f < 256) (hr : r = f % n) (he : ee = r + 1) (hce : c ≠ ee) (hn1 : n1 = n - 1) (hys : Hid (ys = xs.take r ++ xs.drop ee)) (P1 : Hid (confB a p n1 ys sh wo qu tr = true)) (P2 : Hid (hasB ys (gi xs r) = false)) (P3 : Hid (hasB xs (gi xs r) = true)) :
    Calls Try.prog 6 #[.agg #[.int .u32 a, .int .i64 p, .slice (some ⟨b, o, none⟩) n c, .int .i64 sh, .int .i64 wo, .int .i64 qu, .int .i64 tr], .int .u8 f] w fun e w' => e = .returned (.bool true) ∧ Below w.heap.size w w' := by
  have f1 : ((n : Int) != (n : Int)) = false := by simp
  have f2 : IntKind.i64.wrap ((M : Int) - (n : Int)) = (M : Int) - (n : Int) := IntWalk.i64_in _ (by omega)
  have f3 : (((M : Int) - (n : Int)) != ((M : Int) - (n : Int))) = false := by simp
  have i1 : (f : Int).tmod (n : Int) = (r : Int) := by rw [Int.tmod_eq_emod_of_nonneg (by omega), hr, Int.natCast_emod]
  have i2 : (f : Int) % (n : Int) = (r : Int) := by rw [hr, Int.natCast_emod]
  have lr : r < n := by rw [hr]; exact Nat.mod_lt _ hn
  clear hr
  have hcap := h.cap
  have hmx := h.most
  have ew : IntKind.i64.wrap ((r : Int) + 1) = (ee : Int) := by rw [IntWalk.i64_in _ (by omega)]; omega
  have le_ : ee ≤ n := by omega
  have hlen : r + (n - ee) = n1 := by omega
  have l1 : n1 ≤ 64 := by omega
  have f5 : IntKind.i64.wrap ((M : Int) - (n : Int) + 1) = (M : Int) - (n : Int) + 1 := IntWalk.i64_in _ (by omega)
  have f6 : (((M : Int) - (n1 : Int)) == ((M : Int) - (n : Int) + 1)) = true := by simp; omega
  clear hn1
  clear he
  obtain ⟨i0, hi, hz0, hz1, hz2⟩ := info_parts int_info
  have t3 : ((n : Int) == 0) = false := by simp; omega
  have t4 : ¬ (n : Int) = 0 := by omega
  have t5 : IntKind.i64.wrap (r : Int) = (r : Int) := IntWalk.i64_in _ (by omega)
  replace hb := Lib.hid hb
  have hp := hM.pos
  have hl := h.len
  have e1 : decide ((4096 : Int) < (M : Int)) = false := by simp; omega
  replace EN := Lib.hid EN
  have K := below_alloc w (.cells #[.int .u32 a, .int .i64 p, .slice (some ⟨b, o, none⟩) n c, .int .i64 sh, .int .i64 wo, .int .i64 qu, .int .i64 tr] 27)
  have H := Bk.new w #[.int .u32 a, .int .i64 p, .slice (some ⟨b, o, none⟩) n c, .int .i64 sh, .int .i64 wo, .int .i64 qu, .int .i64 tr] 27
  replace h := h.below K
  go_enter Try.func6, Try.ntmps6
  go_wp2_with fail
  generalize w.alloc (.cells #[.int .u32 a, .int .i64 p, .slice (some ⟨b, o, none⟩) n c, .int .i64 sh, .int .i64 wo, .int .i64 qu, .int .i64 tr] 27) = w1 at H K h ⊢
  generalize w.heap.size = g at H ⊢
  refine (awake_any _).mono ?_
  rintro e w2 ⟨rfl, K'⟩
  replace H := H.below K'
  replace h := h.below K'
  replace K := Below.then_ K K'
  clear K'
  have H_0 := H.at_ (v := .int .u32 a) 0 rfl
  have H_1 := H.at_ (v := .int .i64 p) 1 rfl
  have H_2 := H.at_ (v := .slice (some ⟨b, o, none⟩) n c) 2 rfl
  have H_3 := H.at_ (v := .int .i64 sh) 3 rfl
  have H_4 := H.at_ (v := .int .i64 wo) 4 rfl
  have H_5 := H.at_ (v := .int .i64 qu) 5 rfl
  have H_6 := H.at_ (v := .int .i64 tr) 6 rfl
  have H_z := H.lt
  go_wp2_with fail
  refine (rmay_is ha h hb.out).mono ?_
  rintro e w3 ⟨rfl, K'⟩
  clear H_0 H_1 H_2 H_3 H_4 H_5 H_6 H_z
  replace H := H.below K'
  replace h := h.below K'
  replace K := Below.then_ K K'
  clear K'
  have H_0 := H.at_ (v := .int .u32 a) 0 rfl
  have H_1 := H.at_ (v := .int .i64 p) 1 rfl
  have H_2 := H.at_ (v := .slice (some ⟨b, o, none⟩) n c) 2 rfl
  have H_3 := H.at_ (v := .int .i64 sh) 3 rfl
  have H_4 := H.at_ (v := .int .i64 wo) 4 rfl
  have H_5 := H.at_ (v := .int .i64 qu) 5 rfl
  have H_6 := H.at_ (v := .int .i64 tr) 6 rfl
  have H_z := H.lt
  go_wp2_with fail
  refine (many_yes ha hM).mono ?_
  rintro e w4 ⟨rfl, K'⟩
  clear H_0 H_1 H_2 H_3 H_4 H_5 H_6 H_z
  replace H := H.below K'
  replace h := h.below K'
  replace K := Below.then_ K K'
  clear K'
  go_wp2_with fail
  go_loopw [5, 6] (fun s i wr => ∃ k : Nat, k ≤ M ∧ i = .int .i64 k ∧ s = .int .i64 (cn xs k : Nat) ∧ Below w4.heap.size w4 wr) (fun _ i _ => M - (intOf i).toNat)
  case atStart => exact ⟨0, Nat.zero_le _, rfl, rfl, Below.refl _ _⟩
  case round =>
    obtain ⟨k, hk, rfl, hs, Kr⟩ := hrel
    replace H := H.below Kr
    replace h := h.below Kr
    replace K := Below.then_ K Kr
    by_cases hlt : k < M
    · have hc0 := cn_le xs k
      subst hs
      have KR := Kr
      have H_0 := H.at_ (v := .int .u32 a) 0 rfl
      have H_1 := H.at_ (v := .int .i64 p) 1 rfl
      have H_2 := H.at_ (v := .slice (some ⟨b, o, none⟩) n c) 2 rfl
      have H_3 := H.at_ (v := .int .i64 sh) 3 rfl
      have H_4 := H.at_ (v := .int .i64 wo) 4 rfl
      have H_5 := H.at_ (v := .int .i64 qu) 5 rfl
      have H_6 := H.at_ (v := .int .i64 tr) 6 rfl
      have H_z := H.lt
      go_wp2_with fail
      refine (many_yes ha hM).mono ?_
      rintro e w15 ⟨rfl, K'⟩
      clear H_0 H_1 H_2 H_3 H_4 H_5 H_6 H_z
      replace H := H.below K'
      replace h := h.below K'
      replace KR := Below.then_ KR K'
      replace K := Below.then_ K K'
      clear K'
      cases hh : hasB xs (k : Int) with
      | true =>
        have E := Lib.hid (cn_yes hh)
        have H_0 := H.at_ (v := .int .u32 a) 0 rfl
        have H_1 := H.at_ (v := .int .i64 p) 1 rfl
        have H_2 := H.at_ (v := .slice (some ⟨b, o, none⟩) n c) 2 rfl
        have H_3 := H.at_ (v := .int .i64 sh) 3 rfl
        have H_4 := H.at_ (v := .int .i64 wo) 4 rfl
        have H_5 := H.at_ (v := .int .i64 qu) 5 rfl
        have H_6 := H.at_ (v := .int .i64 tr) 6 rfl
        have H_z := H.lt
        go_wp2_with fail
        refine (held_is h (by omega) hh).mono ?_
        rintro e w16 ⟨rfl, K'⟩
        clear H_0 H_1 H_2 H_3 H_4 H_5 H_6 H_z
        replace H := H.below K'
        replace h := h.below K'
        replace KR := Below.then_ KR K'
        replace K := Below.then_ K K'
        clear K'
        go_wp2
        go_roundw
        case rel => exact ⟨k + 1, by omega, by go_num, by rw [E.out]; go_num, KR⟩
        case measure => simp [intOf]; omega
      | false =>
        have E := Lib.hid (cn_no hh)
        have H_0 := H.at_ (v := .int .u32 a) 0 rfl
        have H_1 := H.at_ (v := .int .i64 p) 1 rfl
        have H_2 := H.at_ (v := .slice (some ⟨b, o, none⟩) n c) 2 rfl
        have H_3 := H.at_ (v := .int .i64 sh) 3 rfl
        have H_4 := H.at_ (v := .int .i64 wo) 4 rfl
        have H_5 := H.at_ (v := .int .i64 qu) 5 rfl
        have H_6 := H.at_ (v := .int .i64 tr) 6 rfl
        have H_z := H.lt
        go_wp2_with fail
        refine (held_is h (by omega) hh).mono ?_
        rintro e w16 ⟨rfl, K'⟩
        clear H_0 H_1 H_2 H_3 H_4 H_5 H_6 H_z
        replace H := H.below K'
        replace h := h.below K'
        replace KR := Below.then_ KR K'
        replace K := Below.then_ K K'
        clear K'
        go_wp2
        go_roundw
        case rel => exact ⟨k + 1, by omega, by go_num, by rw [E.out], KR⟩
        case measure => simp [intOf]; omega
    · obtain rfl : k = M := by omega
      rw [EN.out] at hs
      subst hs
      clear EN Kr
      have H_0 := H.at_ (v := .int .u32 a) 0 rfl
      have H_1 := H.at_ (v := .int .i64 p) 1 rfl
      have H_2 := H.at_ (v := .slice (some ⟨b, o, none⟩) n c) 2 rfl
      have H_3 := H.at_ (v := .int .i64 sh) 3 rfl
      have H_4 := H.at_ (v := .int .i64 wo) 4 rfl
      have H_5 := H.at_ (v := .int .i64 qu) 5 rfl
      have H_6 := H.at_ (v := .int .i64 tr) 6 rfl
      have H_z := H.lt
      go_wp2_with fail
      refine (many_yes ha hM).mono ?_
      rintro e w25 ⟨rfl, K'⟩
      clear H_0 H_1 H_2 H_3 H_4 H_5 H_6 H_z
      replace H := H.below K'
      replace h := h.below K'
      replace K := Below.then_ K K'
      clear K'
      go_wp2_with fail
      refine wp_region_held_drew (S := fun w' => Below w25.heap.size w25 w') (by kernel_rfl) (Below.refl _ _).drew (fun hHeld => ?_)
      refine wpAnyH_take (i := 0) (oi := ⟨some 35, _, _, _, _, _⟩) (v := ?_) rfl (by kernel_rfl) (by kernel_rfl) (by kernel_rfl) (fun _ _ _ h => h) (Or.inl ⟨by rfl, ?_⟩) hHeld ?_
      rotate_left
      · intro ww hSw
        try dsimp only at hSw
        go_simp
        try with_reducible rfl
        try omega
      try simp only [Act.put, List.setIfInBounds_toArray, List.set_cons_zero, List.set_cons_succ]
      refine wpAnyH_take (i := 1) (oi := ⟨some 36, _, _, _, _, _⟩) (v := ?_) rfl (by kernel_rfl) (by kernel_rfl) (by kernel_rfl) (fun _ _ _ h => h) (Or.inl ⟨by rfl, ?_⟩) hHeld ?_
      rotate_left
      · intro ww hSw
        try dsimp only at hSw
        go_simp
        try with_reducible rfl
        try omega
      try simp only [Act.put, List.setIfInBounds_toArray, List.set_cons_zero, List.set_cons_succ]
      refine wpAnyH_take (i := 2) (oi := ⟨some 37, _, _, _, _, _⟩) (v := ?_) rfl (by kernel_rfl) (by kernel_rfl) (by kernel_rfl) (fun _ _ _ h => h) (Or.inl ⟨by rfl, ?_⟩) hHeld ?_
      rotate_left
      · intro ww hSw
        try dsimp only at hSw
        have H_0 := (H.below hSw).at_ (v := .int .u32 a) 0 rfl
        have H_1 := (H.below hSw).at_ (v := .int .i64 p) 1 rfl
        have H_2 := (H.below hSw).at_ (v := .slice (some ⟨b, o, none⟩) n c) 2 rfl
        have H_3 := (H.below hSw).at_ (v := .int .i64 sh) 3 rfl
        have H_4 := (H.below hSw).at_ (v := .int .i64 wo) 4 rfl
        have H_5 := (H.below hSw).at_ (v := .int .i64 qu) 5 rfl
        have H_6 := (H.below hSw).at_ (v := .int .i64 tr) 6 rfl
        go_simp
        try with_reducible rfl
        try omega
      try simp only [Act.put, List.setIfInBounds_toArray, List.set_cons_zero, List.set_cons_succ]
      refine wpAnyH_take (i := 3) (oi := ⟨some 38, _, _, _, _, _⟩) (v := ?_) rfl (by kernel_rfl) (by kernel_rfl) (by kernel_rfl) (fun _ _ _ h => h) (Or.inl ⟨by rfl, ?_⟩) hHeld ?_
      rotate_left
      · intro ww hSw
        try dsimp only at hSw
        go_simp
        try with_reducible rfl
        try omega
      try simp only [Act.put, List.setIfInBounds_toArray, List.set_cons_zero, List.set_cons_succ]
      refine wpAnyH_take (i := 4) (oi := ⟨some 39, _, _, _, _, _⟩) (v := .bool false) rfl (by kernel_rfl) (by kernel_rfl) (by kernel_rfl) (fun _ _ _ h => h) (Or.inl ⟨by rfl, ?_⟩) hHeld ?_
      · intro ww hSw
        try dsimp only at hSw
        go_simp
        try with_reducible rfl
        try omega
      try simp only [Act.put, List.setIfInBounds_toArray, List.set_cons_zero, List.set_cons_succ]
      refine wpAnyH_take (i := 5) (oi := ⟨some 40, _, _, _, _, _⟩) (v := .bool false) rfl (by kernel_rfl) (by kernel_rfl) (by kernel_rfl) (fun _ _ _ h => h) (Or.inl ⟨by rfl, ?_⟩) hHeld ?_
      · intro ww hSw
        try dsimp only at hSw
        go_simp
        try with_reducible rfl
        try omega
      try simp only [Act.put, List.setIfInBounds_toArray, List.set_cons_zero, List.set_cons_succ]
      refine wpAnyH_take (i := 6) (oi := ⟨some 41, _, _, _, _, _⟩) (v := ?_) rfl (by kernel_rfl) (by kernel_rfl) (by kernel_rfl) (fun _ _ _ h => h) (Or.inl ⟨by rfl, ?_⟩) hHeld ?_
      rotate_left
      · intro ww hSw
        try dsimp only at hSw
        have H_0 := (H.below hSw).at_ (v := .int .u32 a) 0 rfl
        have H_1 := (H.below hSw).at_ (v := .int .i64 p) 1 rfl
        have H_2 := (H.below hSw).at_ (v := .slice (some ⟨b, o, none⟩) n c) 2 rfl
        have H_3 := (H.below hSw).at_ (v := .int .i64 sh) 3 rfl
        have H_4 := (H.below hSw).at_ (v := .int .i64 wo) 4 rfl
        have H_5 := (H.below hSw).at_ (v := .int .i64 qu) 5 rfl
        have H_6 := (H.below hSw).at_ (v := .int .i64 tr) 6 rfl
        go_simp
        try with_reducible rfl
        try omega
      try simp only [Act.put, List.setIfInBounds_toArray, List.set_cons_zero, List.set_cons_succ]
      refine wpAnyH_take (i := 8) (oi := ⟨some 43, _, _, _, _, _⟩) (v := ?_) rfl (by kernel_rfl) (by kernel_rfl) (by kernel_rfl) (fun _ _ _ h => h) (Or.inl ⟨by rfl, ?_⟩) hHeld ?_
      rotate_left
      · intro ww hSw
        try dsimp only at hSw
        go_simp
        try with_reducible rfl
        try omega
      try simp only [Act.put, List.setIfInBounds_toArray, List.set_cons_zero, List.set_cons_succ]
      refine wpAnyH_take (i := 9) (oi := ⟨some 44, _, _, _, _, _⟩) (v := ?_) rfl (by kernel_rfl) (by kernel_rfl) (by kernel_rfl) (fun _ _ _ h => h) (Or.inl ⟨by rfl, ?_⟩) hHeld ?_
      rotate_left
      · intro ww hSw
        try dsimp only at hSw
        have H_0 := (H.below hSw).at_ (v := .int .u32 a) 0 rfl
        have H_1 := (H.below hSw).at_ (v := .int .i64 p) 1 rfl
        have H_2 := (H.below hSw).at_ (v := .slice (some ⟨b, o, none⟩) n c) 2 rfl
        have H_3 := (H.below hSw).at_ (v := .int .i64 sh) 3 rfl
        have H_4 := (H.below hSw).at_ (v := .int .i64 wo) 4 rfl
        have H_5 := (H.below hSw).at_ (v := .int .i64 qu) 5 rfl
        have H_6 := (H.below hSw).at_ (v := .int .i64 tr) 6 rfl
        go_simp
        try with_reducible rfl
        try omega
      try simp only [Act.put, List.setIfInBounds_toArray, List.set_cons_zero, List.set_cons_succ]
      refine wpAnyH_take (i := 11) (oi := ⟨some 46, _, _, _, _, _⟩) (v := ?_) rfl (by kernel_rfl) (by kernel_rfl) (by kernel_rfl) (fun _ _ _ h => h) (Or.inl ⟨by rfl, ?_⟩) hHeld ?_
      rotate_left
      · intro ww hSw
        try dsimp only at hSw
        go_simp
        try with_reducible rfl
        try omega
      try simp only [Act.put, List.setIfInBounds_toArray, List.set_cons_zero, List.set_cons_succ]
      refine wpAnyH_ready (rs := [7]) (by kernel_rfl) (by simp) ?_
      refine AllReadyH.cons (o := ⟨some 42, _, _, _, _, _⟩) rfl (fun K0 hK => ?_) AllReadyH.nil
      go_simp
      refine (usable_any ha hM (by omega)).mono ?_
      rintro e ww ⟨rfl, K'⟩
      refine hK.out _ _ (Below.then_ hHeld K') (fun hHeld' => ?_)
      clear hHeld K' hK K0
      have hHeld := hHeld'
      clear hHeld'
      try simp only [Act.put, List.setIfInBounds_toArray, List.set_cons_zero, List.set_cons_succ]
      refine wpAnyH_ready (rs := [10]) (by kernel_rfl) (by simp) ?_
      refine AllReadyH.cons (o := ⟨some 45, _, _, _, _, _⟩) rfl (fun K0 hK => ?_) AllReadyH.nil
      go_simp
      refine (many_yes ha hM).mono ?_
      rintro e ww ⟨rfl, K'⟩
      refine hK.out _ _ (Below.then_ hHeld K') (fun hHeld' => ?_)
      clear hHeld K' hK K0
      have hHeld := hHeld'
      clear hHeld'
      try simp only [Act.put, List.setIfInBounds_toArray, List.set_cons_zero, List.set_cons_succ]
      refine wpAnyH_take (i := 12) (oi := ⟨some 47, _, _, _, _, _⟩) (v := .int .i64 ((k : Int) - (n : Int))) rfl (by kernel_rfl) (by kernel_rfl) (by kernel_rfl) (fun _ _ _ h => h) (Or.inl ⟨by rfl, ?_⟩) hHeld ?_
      · intro ww hSw
        try dsimp only at hSw
        go_simp
        try with_reducible rfl
        try omega
      try simp only [Act.put, List.setIfInBounds_toArray, List.set_cons_zero, List.set_cons_succ]
      refine wpAnyH_take (i := 13) (oi := ⟨some 48, _, _, _, _, _⟩) (v := .bool false) rfl (by kernel_rfl) (by kernel_rfl) (by kernel_rfl) (fun _ _ _ h => h) (Or.inl ⟨by rfl, ?_⟩) hHeld ?_
      · intro ww hSw
        try dsimp only at hSw
        go_simp
        try with_reducible rfl
        try omega
      try simp only [Act.put, List.setIfInBounds_toArray, List.set_cons_zero, List.set_cons_succ]
      refine wpAnyH_take (i := 14) (oi := ⟨some 49, _, _, _, _, _⟩) (v := .bool false) rfl (by kernel_rfl) (by kernel_rfl) (by kernel_rfl) (fun _ _ _ h => h) (Or.inl ⟨by rfl, ?_⟩) hHeld ?_
      · intro ww hSw
        try dsimp only at hSw
        go_simp
        try with_reducible rfl
        try omega
      try simp only [Act.put, List.setIfInBounds_toArray, List.set_cons_zero, List.set_cons_succ]
      refine wpAnyH_done (by kernel_rfl) ?_ _
      replace H := H.below hHeld
      replace h := h.below hHeld
      replace K := Below.then_ K hHeld
      clear hHeld
      have H_0 := H.at_ (v := .int .u32 a) 0 rfl
      have H_1 := H.at_ (v := .int .i64 p) 1 rfl
      have H_2 := H.at_ (v := .slice (some ⟨b, o, none⟩) n c) 2 rfl
      have H_3 := H.at_ (v := .int .i64 sh) 3 rfl
      have H_4 := H.at_ (v := .int .i64 wo) 4 rfl
      have H_5 := H.at_ (v := .int .i64 qu) 5 rfl
      have H_6 := H.at_ (v := .int .i64 tr) 6 rfl
      have H_z := H.lt
      go_wp2_with fail
      clear H_0 H_1 H_2 H_3 H_4 H_5 H_6 H_z
      have Ls := below_alloc ww (.cells #[.int .u32 a, .int .i64 p, .slice (some ⟨b, o, none⟩) n c, .int .i64 sh, .int .i64 wo, .int .i64 qu, .int .i64 tr] 27)
      have Ds := Bk.new ww #[.int .u32 a, .int .i64 p, .slice (some ⟨b, o, none⟩) n c, .int .i64 sh, .int .i64 wo, .int .i64 qu, .int .i64 tr] 27
      have hsz : ww.heap.size + 1 = (ww.alloc (.cells #[.int .u32 a, .int .i64 p, .slice (some ⟨b, o, none⟩) n c, .int .i64 sh, .int .i64 wo, .int .i64 qu, .int .i64 tr] 27)).heap.size := by rw [World.size_alloc]
      refine wp_region_held_drew (S := fun w' => Below ww.heap.size ww w' ∧ ∃ v, Bk w' ww.heap.size 27 #[.int .u32 a, .int .i64 p, v, .int .i64 sh, .int .i64 wo, .int .i64 qu, .int .i64 tr]) (by kernel_rfl) ⟨Ls.drew, _, Ds⟩ (fun hHeld => ?_)
      have hw5 : (ww.alloc (.cells #[.int .u32 a, .int .i64 p, .slice (some ⟨b, o, none⟩) n c, .int .i64 sh, .int .i64 wo, .int .i64 qu, .int .i64 tr] 27)).drew.heap.size = (ww.alloc (.cells #[.int .u32 a, .int .i64 p, .slice (some ⟨b, o, none⟩) n c, .int .i64 sh, .int .i64 wo, .int .i64 qu, .int .i64 tr] 27)).heap.size := rfl
      rw [← hw5] at hsz
      clear hw5 Ls Ds
      generalize (ww.alloc (.cells #[.int .u32 a, .int .i64 p, .slice (some ⟨b, o, none⟩) n c, .int .i64 sh, .int .i64 wo, .int .i64 qu, .int .i64 tr] 27)).drew = w5 at hHeld hsz ⊢
      refine wpAnyH_take (i := 1) (oi := ⟨some 58, _, _, _, _, _⟩) (v := ?_) rfl (by kernel_rfl) (by kernel_rfl) (by kernel_rfl) (fun _ _ _ h => h) (Or.inl ⟨by rfl, ?_⟩) hHeld ?_
      rotate_left
      · intro ww hSw
        try dsimp only at hSw
        go_simp
        try with_reducible rfl
        try omega
      try simp only [Act.put, List.setIfInBounds_toArray, List.set_cons_zero, List.set_cons_succ]
      refine wpAnyH_take (i := 2) (oi := ⟨some 59, _, _, _, _, _⟩) (v := ?_) rfl (by kernel_rfl) (by kernel_rfl) (by kernel_rfl) (fun _ _ _ h => h) (Or.inl ⟨by rfl, ?_⟩) hHeld ?_
      rotate_left
      · intro ww hSw
        try dsimp only at hSw
        have H_0 := (H.below hSw.1).at_ (v := .int .u32 a) 0 rfl
        have H_1 := (H.below hSw.1).at_ (v := .int .i64 p) 1 rfl
        have H_2 := (H.below hSw.1).at_ (v := .slice (some ⟨b, o, none⟩) n c) 2 rfl
        have H_3 := (H.below hSw.1).at_ (v := .int .i64 sh) 3 rfl
        have H_4 := (H.below hSw.1).at_ (v := .int .i64 wo) 4 rfl
        have H_5 := (H.below hSw.1).at_ (v := .int .i64 qu) 5 rfl
        have H_6 := (H.below hSw.1).at_ (v := .int .i64 tr) 6 rfl
        go_simp
        try with_reducible rfl
        try omega
      try simp only [Act.put, List.setIfInBounds_toArray, List.set_cons_zero, List.set_cons_succ]
      refine wpAnyH_take (i := 3) (oi := ⟨some 60, _, _, _, _, _⟩) (v := ?_) rfl (by kernel_rfl) (by kernel_rfl) (by kernel_rfl) (fun _ _ _ h => h) (Or.inl ⟨by rfl, ?_⟩) hHeld ?_
      rotate_left
      · intro ww hSw
        try dsimp only at hSw
        go_simp
        try with_reducible rfl
        try omega
      try simp only [Act.put, List.setIfInBounds_toArray, List.set_cons_zero, List.set_cons_succ]
      refine wpAnyH_take (i := 4) (oi := ⟨some 61, _, _, _, _, _⟩) (v := .slice (some ⟨b, o, none⟩) r c) rfl (by kernel_rfl) (by kernel_rfl) (by kernel_rfl) (fun _ _ _ h => h) (Or.inl ⟨by rfl, ?_⟩) hHeld ?_
      · intro ww hSw
        try dsimp only at hSw
        go_simp
        try with_reducible rfl
        try omega
      try simp only [Act.put, List.setIfInBounds_toArray, List.set_cons_zero, List.set_cons_succ]
      refine wpAnyH_take (i := 6) (oi := ⟨some 63, _, _, _, _, _⟩) (v := ?_) rfl (by kernel_rfl) (by kernel_rfl) (by kernel_rfl) (fun _ _ _ h => h) (Or.inl ⟨by rfl, ?_⟩) hHeld ?_
      rotate_left
      · intro ww hSw
        try dsimp only at hSw
        go_simp
        try with_reducible rfl
        try omega
      try simp only [Act.put, List.setIfInBounds_toArray, List.set_cons_zero, List.set_cons_succ]
      refine wpAnyH_take (i := 7) (oi := ⟨some 64, _, _, _, _, _⟩) (v := ?_) rfl (by kernel_rfl) (by kernel_rfl) (by kernel_rfl) (fun _ _ _ h => h) (Or.inl ⟨by rfl, ?_⟩) hHeld ?_
      rotate_left
      · intro ww hSw
        try dsimp only at hSw
        have H_0 := (H.below hSw.1).at_ (v := .int .u32 a) 0 rfl
        have H_1 := (H.below hSw.1).at_ (v := .int .i64 p) 1 rfl
        have H_2 := (H.below hSw.1).at_ (v := .slice (some ⟨b, o, none⟩) n c) 2 rfl
        have H_3 := (H.below hSw.1).at_ (v := .int .i64 sh) 3 rfl
        have H_4 := (H.below hSw.1).at_ (v := .int .i64 wo) 4 rfl
        have H_5 := (H.below hSw.1).at_ (v := .int .i64 qu) 5 rfl
        have H_6 := (H.below hSw.1).at_ (v := .int .i64 tr) 6 rfl
        go_simp
        try with_reducible rfl
        try omega
      try simp only [Act.put, List.setIfInBounds_toArray, List.set_cons_zero, List.set_cons_succ]
      refine wpAnyH_take (i := 8) (oi := ⟨some 65, _, _, _, _, _⟩) (v := ?_) rfl (by kernel_rfl) (by kernel_rfl) (by kernel_rfl) (fun _ _ _ h => h) (Or.inl ⟨by rfl, ?_⟩) hHeld ?_
      rotate_left
      · intro ww hSw
        try dsimp only at hSw
        go_simp
        try with_reducible rfl
        try omega
      try simp only [Act.put, List.setIfInBounds_toArray, List.set_cons_zero, List.set_cons_succ]
      refine wpAnyH_take (i := 9) (oi := ⟨some 66, _, _, _, _, _⟩) (v := .int .i64 ee) rfl (by kernel_rfl) (by kernel_rfl) (by kernel_rfl) (fun _ _ _ h => h) (Or.inl ⟨by rfl, ?_⟩) hHeld ?_
      · intro ww hSw
        try dsimp only at hSw
        go_simp
        try with_reducible rfl
        try omega
      try simp only [Act.put, List.setIfInBounds_toArray, List.set_cons_zero, List.set_cons_succ]
      refine wpAnyH_take (i := 10) (oi := ⟨some 67, _, _, _, _, _⟩) (v := .slice (some ⟨b, o + ee, none⟩) (n - ee) (c - ee)) rfl (by kernel_rfl) (by kernel_rfl) (by kernel_rfl) (fun _ _ _ h => h) (Or.inl ⟨by rfl, ?_⟩) hHeld ?_
      · intro ww hSw
        try dsimp only at hSw
        go_simp
        try with_reducible rfl
        try omega
      try simp only [Act.put, List.setIfInBounds_toArray, List.set_cons_zero, List.set_cons_succ]
      refine wpAnyH_ready (rs := [0]) (by kernel_rfl) (by simp) ?_
      refine AllReadyH.cons (o := ⟨some 57, _, _, _, _, _⟩) rfl (fun K0 hK => ?_) AllReadyH.nil
      go_simp
      have O6 : (w5.alloc (.cells #[] 3)).ownsRow w5.heap.size 3 1 (.slice (some ⟨w5.heap.size, 0, none⟩) 0 0) 0 (([] : List Int).map (iv .i64)) := World.ownsRow_lit w5 #[] 0 (Nat.le_refl _) (by unfold maxLen; omega) rfl
      have L6 := Below.then_ hHeld.1 (below_alloc w5 (.cells #[] 3))
      obtain ⟨vd, D5⟩ := hHeld.2
      have D6 := D5.alloc (.cells #[] 3)
      have z6 : w5.heap.size ≤ (w5.alloc (.cells #[] 3)).heap.size := by rw [World.size_alloc]; omega
      refine hK.out _ _ ⟨L6, _, D6⟩ (fun hHeld' => ?_)
      clear D5 hHeld
      clear hK K0
      have hHeld := hHeld'
      clear hHeld'
      have z5 := hsz
      clear hsz
      generalize w5.alloc (.cells #[] 3) = w6 at O6 L6 D6 z6 hHeld ⊢
      generalize w5.heap.size = g0 at O6 z6 z5 ⊢
      obtain ⟨A7, c7, w7, r7, O7, G7, _⟩ := run_append_onto (P := Try.prog) Try.underlying25 hi hz0 hz1 hz2 O6 (take_is (h.below L6) (d := r) (by omega)) (by omega) z6 25
      rw [Nat.zero_add] at r7 O7
      try simp only [Act.put, List.setIfInBounds_toArray, List.set_cons_zero, List.set_cons_succ]
      refine wpAnyH_ready (rs := [5]) (by kernel_rfl) (by simp) ?_
      refine AllReadyH.cons (o := ⟨some 62, _, _, _, _, _⟩) rfl (fun K0 hK => ?_) AllReadyH.nil
      rw [if_pos (by rfl)]
      refine oper_append_run (.tmp 57) (.tmp 61) 25 rfl _ _ _ _ rfl rfl r7 ?_
      have B7 : Below (ww.heap.size + 1) w6 w7 := (Below.refl _ _).grown G7 (by omega) (fun k hk => by have := own_ge O6 k hk; omega)
      have L7 := L6.trans (B7.mono (Nat.le_succ _))
      have D7 := D6.under B7 (Nat.lt_succ_self _)
      have z7 : g0 ≤ w7.heap.size := Nat.le_trans z6 B7.size
      refine hK.out _ _ ⟨L7, _, D7⟩ (fun hHeld' => ?_)
      clear hHeld hK K0
      have hHeld := hHeld'
      clear hHeld'
      clear r7 L6 D6 B7 G7 O6 z6
      have I7 := (h.below L7).cut_ne (d := ee) (by omega) hce
      obtain ⟨A8, c8, w8, r8, O8, G8, _⟩ := run_append_onto (P := Try.prog) Try.underlying25 hi hz0 hz1 hz2 O7 I7 (by omega) z7 25
      rw [hlen] at r8 O8
      try simp only [Act.put, List.setIfInBounds_toArray, List.set_cons_zero, List.set_cons_succ]
      refine wpAnyH_ready (rs := [11]) (by kernel_rfl) (by simp) ?_
      refine AllReadyH.cons (o := ⟨some 68, _, _, _, _, _⟩) rfl (fun K0 hK => ?_) AllReadyH.nil
      rw [if_pos (by rfl)]
      refine oper_append_run (.tmp 62) (.tmp 67) 25 rfl _ _ _ _ rfl rfl r8 ?_
      have B8 : Below (ww.heap.size + 1) w7 w8 := (Below.refl _ _).grown G8 (by omega) (fun k hk => by have := own_ge O7 k hk; omega)
      have L8 := L7.trans (B8.mono (Nat.le_succ _))
      have D8 := D7.under B8 (Nat.lt_succ_self _)
      refine hK.out _ _ ⟨L8, _, D8⟩ (fun hHeld' => ?_)
      clear hHeld hK K0
      have hHeld := hHeld'
      clear hHeld'
      clear r8 L7 D7 B8 G8 O7 z7 I7
      try simp only [Act.put, List.setIfInBounds_toArray, List.set_cons_zero, List.set_cons_succ]
      refine wpAnyH_take (i := 12) (oi := ⟨some 69, _, _, _, _, _⟩) (v := ?_) rfl (by kernel_rfl) (by kernel_rfl) (by kernel_rfl) (fun _ _ _ h => h) (Or.inl ⟨by rfl, ?_⟩) hHeld ?_
      rotate_left
      · intro ww hSw
        try dsimp only at hSw
        go_simp
        try with_reducible rfl
        try omega
      try simp only [Act.put, List.setIfInBounds_toArray, List.set_cons_zero, List.set_cons_succ]
      refine wpAnyH_ready (rs := [13]) (by kernel_rfl) (by simp) ?_
      refine AllReadyH.cons (o := ⟨none, _, _, _, _, _⟩) rfl (fun K0 hK => ?_) AllReadyH.nil
      have d2 := D8.at_ (v := vd) 2 rfl
      have dz := D8.fz 2
      have dl := D8.lt
      go_simp
      have L9 : Below ww.heap.size ww (w8.setCell ⟨ww.heap.size, 2, none⟩ (.slice A8 n1 c8)) := L8.setCell (Nat.le_refl _) _
      have D9 : Bk (w8.setCell ⟨ww.heap.size, 2, none⟩ (.slice A8 n1 c8)) ww.heap.size 27 #[.int .u32 a, .int .i64 p, .slice A8 n1 c8, .int .i64 sh, .int .i64 wo, .int .i64 qu, .int .i64 tr] := bk_set D8
      refine hK.out _ _ ⟨L9, _, D9⟩ (fun hHeld' => ?_)
      clear hHeld hK K0 hHeld' d2 dz dl
      try simp only [Act.put, List.setIfInBounds_toArray, List.set_cons_zero, List.set_cons_succ]
      refine wpAnyH_done (by kernel_rfl) ?_ _
      obtain ⟨A9, c9, e9, I9⟩ := IS.of_own O8
      injection e9 with e9 _ e10
      subst e9 e10
      replace I9 := (I9.set_low (p := ⟨ww.heap.size, 2, none⟩) (show ww.heap.size < g0 by omega) (.slice A8 n1 c8)).lower (Nat.zero_le g0)
      clear L8 D8 O8
      rw [List.nil_append, ← hys.out] at I9
      replace H := H.below L9
      replace h := h.below L9
      replace K := Below.then_ K L9
      clear L9
      generalize w8.setCell ⟨ww.heap.size, 2, none⟩ (.slice A8 n1 c8) = wz at D9 I9 H h K ⊢
      have Hd := D9
      clear D9
      generalize ww.heap.size = gd at Hd ⊢
      have HX : Hid (∀ wq, Below wz.heap.size wz wq → wq.cell? ⟨b, o + r, none⟩ = some (.int .i64 (gi xs r))) := fun wq Kw => by
        obtain ⟨b', o', eb, _, hc'⟩ := (h.below Kw).get lr
        injection eb with eb
        injection eb with eb1 eb2
        subst eb1; subst eb2
        exact hc'
      go_wp2_with fail
      refine wp_region_held_drew (S := fun w' => Below wz.heap.size wz w') (by kernel_rfl) (Below.refl _ _).drew (fun hHeld => ?_)
      refine wpAnyH_take (i := 0) (oi := ⟨some 70, _, _, _, _, _⟩) (v := ?_) rfl (by kernel_rfl) (by kernel_rfl) (by kernel_rfl) (fun _ _ _ h => h) (Or.inl ⟨by rfl, ?_⟩) hHeld ?_
      rotate_left
      · intro ww hSw
        try dsimp only at hSw
        have H_0 := (H.below hSw).at_ (v := .int .u32 a) 0 rfl
        have H_1 := (H.below hSw).at_ (v := .int .i64 p) 1 rfl
        have H_2 := (H.below hSw).at_ (v := .slice (some ⟨b, o, none⟩) n c) 2 rfl
        have H_3 := (H.below hSw).at_ (v := .int .i64 sh) 3 rfl
        have H_4 := (H.below hSw).at_ (v := .int .i64 wo) 4 rfl
        have H_5 := (H.below hSw).at_ (v := .int .i64 qu) 5 rfl
        have H_6 := (H.below hSw).at_ (v := .int .i64 tr) 6 rfl
        have Hd_0 := (Hd.below hSw).at_ (v := .int .u32 a) 0 rfl
        have Hd_1 := (Hd.below hSw).at_ (v := .int .i64 p) 1 rfl
        have Hd_2 := (Hd.below hSw).at_ (v := .slice A8 n1 c8) 2 rfl
        have Hd_3 := (Hd.below hSw).at_ (v := .int .i64 sh) 3 rfl
        have Hd_4 := (Hd.below hSw).at_ (v := .int .i64 wo) 4 rfl
        have Hd_5 := (Hd.below hSw).at_ (v := .int .i64 qu) 5 rfl
        have Hd_6 := (Hd.below hSw).at_ (v := .int .i64 tr) 6 rfl
        have HX1 := HX.out ww hSw
        go_simp
        try with_reducible rfl
        try omega
      try simp only [Act.put, List.setIfInBounds_toArray, List.set_cons_zero, List.set_cons_succ]
      refine wpAnyH_ready (rs := [1]) (by kernel_rfl) (by simp) ?_
      refine AllReadyH.cons (o := ⟨some 71, _, _, _, _, _⟩) rfl (fun K0 hK => ?_) AllReadyH.nil
      go_simp
      refine (may_is ha (I9.below hHeld) (by omega) P1.out).mono ?_
      rintro e ww ⟨rfl, K'⟩
      refine hK.out _ _ (Below.then_ hHeld K') (fun hHeld' => ?_)
      clear hHeld K' hK K0
      have hHeld := hHeld'
      clear hHeld'
      try simp only [Act.put, List.setIfInBounds_toArray, List.set_cons_zero, List.set_cons_succ]
      refine wpAnyH_take (i := 2) (oi := ⟨some 72, _, _, _, _, _⟩) (v := .bool true) rfl (by kernel_rfl) (by kernel_rfl) (by kernel_rfl) (fun _ _ _ h => h) (Or.inl ⟨by rfl, ?_⟩) hHeld ?_
      · intro ww hSw
        try dsimp only at hSw
        go_simp
        try with_reducible rfl
        try omega
      try simp only [Act.put, List.setIfInBounds_toArray, List.set_cons_zero, List.set_cons_succ]
      refine wpAnyH_take (i := 3) (oi := ⟨some 73, _, _, _, _, _⟩) (v := ?_) rfl (by kernel_rfl) (by kernel_rfl) (by kernel_rfl) (fun _ _ _ h => h) (Or.inl ⟨by rfl, ?_⟩) hHeld ?_
      rotate_left
      · intro ww hSw
        try dsimp only at hSw
        have H_0 := (H.below hSw).at_ (v := .int .u32 a) 0 rfl
        have H_1 := (H.below hSw).at_ (v := .int .i64 p) 1 rfl
        have H_2 := (H.below hSw).at_ (v := .slice (some ⟨b, o, none⟩) n c) 2 rfl
        have H_3 := (H.below hSw).at_ (v := .int .i64 sh) 3 rfl
        have H_4 := (H.below hSw).at_ (v := .int .i64 wo) 4 rfl
        have H_5 := (H.below hSw).at_ (v := .int .i64 qu) 5 rfl
        have H_6 := (H.below hSw).at_ (v := .int .i64 tr) 6 rfl
        have Hd_0 := (Hd.below hSw).at_ (v := .int .u32 a) 0 rfl
        have Hd_1 := (Hd.below hSw).at_ (v := .int .i64 p) 1 rfl
        have Hd_2 := (Hd.below hSw).at_ (v := .slice A8 n1 c8) 2 rfl
        have Hd_3 := (Hd.below hSw).at_ (v := .int .i64 sh) 3 rfl
        have Hd_4 := (Hd.below hSw).at_ (v := .int .i64 wo) 4 rfl
        have Hd_5 := (Hd.below hSw).at_ (v := .int .i64 qu) 5 rfl
        have Hd_6 := (Hd.below hSw).at_ (v := .int .i64 tr) 6 rfl
        have HX1 := HX.out ww hSw
        go_simp
        try with_reducible rfl
        try omega
      try simp only [Act.put, List.setIfInBounds_toArray, List.set_cons_zero, List.set_cons_succ]
      refine wpAnyH_take (i := 5) (oi := ⟨some 75, _, _, _, _, _⟩) (v := ?_) rfl (by kernel_rfl) (by kernel_rfl) (by kernel_rfl) (fun _ _ _ h => h) (Or.inl ⟨by rfl, ?_⟩) hHeld ?_
      rotate_left
      · intro ww hSw
        try dsimp only at hSw
        have H_0 := (H.below hSw).at_ (v := .int .u32 a) 0 rfl
        have H_1 := (H.below hSw).at_ (v := .int .i64 p) 1 rfl
        have H_2 := (H.below hSw).at_ (v := .slice (some ⟨b, o, none⟩) n c) 2 rfl
        have H_3 := (H.below hSw).at_ (v := .int .i64 sh) 3 rfl
        have H_4 := (H.below hSw).at_ (v := .int .i64 wo) 4 rfl
        have H_5 := (H.below hSw).at_ (v := .int .i64 qu) 5 rfl
        have H_6 := (H.below hSw).at_ (v := .int .i64 tr) 6 rfl
        have Hd_0 := (Hd.below hSw).at_ (v := .int .u32 a) 0 rfl
        have Hd_1 := (Hd.below hSw).at_ (v := .int .i64 p) 1 rfl
        have Hd_2 := (Hd.below hSw).at_ (v := .slice A8 n1 c8) 2 rfl
        have Hd_3 := (Hd.below hSw).at_ (v := .int .i64 sh) 3 rfl
        have Hd_4 := (Hd.below hSw).at_ (v := .int .i64 wo) 4 rfl
        have Hd_5 := (Hd.below hSw).at_ (v := .int .i64 qu) 5 rfl
        have Hd_6 := (Hd.below hSw).at_ (v := .int .i64 tr) 6 rfl
        have HX1 := HX.out ww hSw
        go_simp
        try with_reducible rfl
        try omega
      try simp only [Act.put, List.setIfInBounds_toArray, List.set_cons_zero, List.set_cons_succ]
      refine wpAnyH_ready (rs := [4]) (by kernel_rfl) (by simp) ?_
      refine AllReadyH.cons (o := ⟨some 74, _, _, _, _, _⟩) rfl (fun K0 hK => ?_) AllReadyH.nil
      go_simp
      refine (usable_any ha hM (by omega)).mono ?_
      rintro e ww ⟨rfl, K'⟩
      refine hK.out _ _ (Below.then_ hHeld K') (fun hHeld' => ?_)
      clear hHeld K' hK K0
      have hHeld := hHeld'
      clear hHeld'
      try simp only [Act.put, List.setIfInBounds_toArray, List.set_cons_zero, List.set_cons_succ]
      refine wpAnyH_ready (rs := [6]) (by kernel_rfl) (by simp) ?_
      refine AllReadyH.cons (o := ⟨some 76, _, _, _, _, _⟩) rfl (fun K0 hK => ?_) AllReadyH.nil
      go_simp
      refine (usable_any ha hM (by omega)).mono ?_
      rintro e ww ⟨rfl, K'⟩
      refine hK.out _ _ (Below.then_ hHeld K') (fun hHeld' => ?_)
      clear hHeld K' hK K0
      have hHeld := hHeld'
      clear hHeld'
      try simp only [Act.put, List.setIfInBounds_toArray, List.set_cons_zero, List.set_cons_succ]
      refine wpAnyH_take (i := 7) (oi := ⟨some 77, _, _, _, _, _⟩) (v := .int .i64 ((k : Int) - (n : Int) + 1)) rfl (by kernel_rfl) (by kernel_rfl) (by kernel_rfl) (fun _ _ _ h => h) (Or.inl ⟨by rfl, ?_⟩) hHeld ?_
      · intro ww hSw
        try dsimp only at hSw
        go_simp
        try with_reducible rfl
        try omega
      try simp only [Act.put, List.setIfInBounds_toArray, List.set_cons_zero, List.set_cons_succ]
      refine wpAnyH_take (i := 8) (oi := ⟨some 78, _, _, _, _, _⟩) (v := .bool true) rfl (by kernel_rfl) (by kernel_rfl) (by kernel_rfl) (fun _ _ _ h => h) (Or.inl ⟨by rfl, ?_⟩) hHeld ?_
      · intro ww hSw
        try dsimp only at hSw
        go_simp
        try with_reducible rfl
        try omega
      try simp only [Act.put, List.setIfInBounds_toArray, List.set_cons_zero, List.set_cons_succ]
      refine wpAnyH_take (i := 9) (oi := ⟨some 79, _, _, _, _, _⟩) (v := .bool true) rfl (by kernel_rfl) (by kernel_rfl) (by kernel_rfl) (fun _ _ _ h => h) (Or.inl ⟨by rfl, ?_⟩) hHeld ?_
      · intro ww hSw
        try dsimp only at hSw
        go_simp
        try with_reducible rfl
        try omega
      try simp only [Act.put, List.setIfInBounds_toArray, List.set_cons_zero, List.set_cons_succ]
      refine wpAnyH_take (i := 10) (oi := ⟨some 80, _, _, _, _, _⟩) (v := .bool true) rfl (by kernel_rfl) (by kernel_rfl) (by kernel_rfl) (fun _ _ _ h => h) (Or.inl ⟨by rfl, ?_⟩) hHeld ?_
      · intro ww hSw
        try dsimp only at hSw
        go_simp
        try with_reducible rfl
        try omega
      try simp only [Act.put, List.setIfInBounds_toArray, List.set_cons_zero, List.set_cons_succ]
      refine wpAnyH_take (i := 11) (oi := ⟨some 81, _, _, _, _, _⟩) (v := ?_) rfl (by kernel_rfl) (by kernel_rfl) (by kernel_rfl) (fun _ _ _ h => h) (Or.inl ⟨by rfl, ?_⟩) hHeld ?_
      rotate_left
      · intro ww hSw
        try dsimp only at hSw
        have H_0 := (H.below hSw).at_ (v := .int .u32 a) 0 rfl
        have H_1 := (H.below hSw).at_ (v := .int .i64 p) 1 rfl
        have H_2 := (H.below hSw).at_ (v := .slice (some ⟨b, o, none⟩) n c) 2 rfl
        have H_3 := (H.below hSw).at_ (v := .int .i64 sh) 3 rfl
        have H_4 := (H.below hSw).at_ (v := .int .i64 wo) 4 rfl
        have H_5 := (H.below hSw).at_ (v := .int .i64 qu) 5 rfl
        have H_6 := (H.below hSw).at_ (v := .int .i64 tr) 6 rfl
        have Hd_0 := (Hd.below hSw).at_ (v := .int .u32 a) 0 rfl
        have Hd_1 := (Hd.below hSw).at_ (v := .int .i64 p) 1 rfl
        have Hd_2 := (Hd.below hSw).at_ (v := .slice A8 n1 c8) 2 rfl
        have Hd_3 := (Hd.below hSw).at_ (v := .int .i64 sh) 3 rfl
        have Hd_4 := (Hd.below hSw).at_ (v := .int .i64 wo) 4 rfl
        have Hd_5 := (Hd.below hSw).at_ (v := .int .i64 qu) 5 rfl
        have Hd_6 := (Hd.below hSw).at_ (v := .int .i64 tr) 6 rfl
        have HX1 := HX.out ww hSw
        go_simp
        try with_reducible rfl
        try omega
      try simp only [Act.put, List.setIfInBounds_toArray, List.set_cons_zero, List.set_cons_succ]
      refine wpAnyH_take (i := 12) (oi := ⟨some 82, _, _, _, _, _⟩) (v := ?_) rfl (by kernel_rfl) (by kernel_rfl) (by kernel_rfl) (fun _ _ _ h => h) (Or.inl ⟨by rfl, ?_⟩) hHeld ?_
      rotate_left
      · intro ww hSw
        try dsimp only at hSw
        go_simp
        try with_reducible rfl
        try omega
      try simp only [Act.put, List.setIfInBounds_toArray, List.set_cons_zero, List.set_cons_succ]
      refine wpAnyH_take (i := 13) (oi := ⟨some 83, _, _, _, _, _⟩) (v := ?_) rfl (by kernel_rfl) (by kernel_rfl) (by kernel_rfl) (fun _ _ _ h => h) (Or.inl ⟨by rfl, ?_⟩) hHeld ?_
      rotate_left
      · intro ww hSw
        try dsimp only at hSw
        have H_0 := (H.below hSw).at_ (v := .int .u32 a) 0 rfl
        have H_1 := (H.below hSw).at_ (v := .int .i64 p) 1 rfl
        have H_2 := (H.below hSw).at_ (v := .slice (some ⟨b, o, none⟩) n c) 2 rfl
        have H_3 := (H.below hSw).at_ (v := .int .i64 sh) 3 rfl
        have H_4 := (H.below hSw).at_ (v := .int .i64 wo) 4 rfl
        have H_5 := (H.below hSw).at_ (v := .int .i64 qu) 5 rfl
        have H_6 := (H.below hSw).at_ (v := .int .i64 tr) 6 rfl
        have Hd_0 := (Hd.below hSw).at_ (v := .int .u32 a) 0 rfl
        have Hd_1 := (Hd.below hSw).at_ (v := .int .i64 p) 1 rfl
        have Hd_2 := (Hd.below hSw).at_ (v := .slice A8 n1 c8) 2 rfl
        have Hd_3 := (Hd.below hSw).at_ (v := .int .i64 sh) 3 rfl
        have Hd_4 := (Hd.below hSw).at_ (v := .int .i64 wo) 4 rfl
        have Hd_5 := (Hd.below hSw).at_ (v := .int .i64 qu) 5 rfl
        have Hd_6 := (Hd.below hSw).at_ (v := .int .i64 tr) 6 rfl
        have HX1 := HX.out ww hSw
        go_simp
        try with_reducible rfl
        try omega
      try simp only [Act.put, List.setIfInBounds_toArray, List.set_cons_zero, List.set_cons_succ]
      refine wpAnyH_take (i := 14) (oi := ⟨some 84, _, _, _, _, _⟩) (v := ?_) rfl (by kernel_rfl) (by kernel_rfl) (by kernel_rfl) (fun _ _ _ h => h) (Or.inl ⟨by rfl, ?_⟩) hHeld ?_
      rotate_left
      · intro ww hSw
        try dsimp only at hSw
        go_simp
        try with_reducible rfl
        try omega
      try simp only [Act.put, List.setIfInBounds_toArray, List.set_cons_zero, List.set_cons_succ]
      refine wpAnyH_take (i := 15) (oi := ⟨some 85, _, _, _, _, _⟩) (v := ?_) rfl (by kernel_rfl) (by kernel_rfl) (by kernel_rfl) (fun _ _ _ h => h) (Or.inl ⟨by rfl, ?_⟩) hHeld ?_
      rotate_left
      · intro ww hSw
        try dsimp only at hSw
        go_simp
        try with_reducible rfl
        try omega
      try simp only [Act.put, List.setIfInBounds_toArray, List.set_cons_zero, List.set_cons_succ]
      refine wpAnyH_take (i := 16) (oi := ⟨some 86, _, _, _, _, _⟩) (v := ?_) rfl (by kernel_rfl) (by kernel_rfl) (by kernel_rfl) (fun _ _ _ h => h) (Or.inl ⟨by rfl, ?_⟩) hHeld ?_
      rotate_left
      · intro ww hSw
        try dsimp only at hSw
        have H_0 := (H.below hSw).at_ (v := .int .u32 a) 0 rfl
        have H_1 := (H.below hSw).at_ (v := .int .i64 p) 1 rfl
        have H_2 := (H.below hSw).at_ (v := .slice (some ⟨b, o, none⟩) n c) 2 rfl
        have H_3 := (H.below hSw).at_ (v := .int .i64 sh) 3 rfl
        have H_4 := (H.below hSw).at_ (v := .int .i64 wo) 4 rfl
        have H_5 := (H.below hSw).at_ (v := .int .i64 qu) 5 rfl
        have H_6 := (H.below hSw).at_ (v := .int .i64 tr) 6 rfl
        have Hd_0 := (Hd.below hSw).at_ (v := .int .u32 a) 0 rfl
        have Hd_1 := (Hd.below hSw).at_ (v := .int .i64 p) 1 rfl
        have Hd_2 := (Hd.below hSw).at_ (v := .slice A8 n1 c8) 2 rfl
        have Hd_3 := (Hd.below hSw).at_ (v := .int .i64 sh) 3 rfl
        have Hd_4 := (Hd.below hSw).at_ (v := .int .i64 wo) 4 rfl
        have Hd_5 := (Hd.below hSw).at_ (v := .int .i64 qu) 5 rfl
        have Hd_6 := (Hd.below hSw).at_ (v := .int .i64 tr) 6 rfl
        have HX1 := HX.out ww hSw
        go_simp
        try with_reducible rfl
        try omega
      try simp only [Act.put, List.setIfInBounds_toArray, List.set_cons_zero, List.set_cons_succ]
      refine wpAnyH_ready (rs := [17]) (by kernel_rfl) (by simp) ?_
      refine AllReadyH.cons (o := ⟨some 87, _, _, _, _, _⟩) rfl (fun K0 hK => ?_) AllReadyH.nil
      go_simp
      refine (held_is (I9.below hHeld) (by omega) P2.out).mono ?_
      rintro e ww ⟨rfl, K'⟩
      refine hK.out _ _ (Below.then_ hHeld K') (fun hHeld' => ?_)
      clear hHeld K' hK K0
      have hHeld := hHeld'
      clear hHeld'
      try simp only [Act.put, List.setIfInBounds_toArray, List.set_cons_zero, List.set_cons_succ]
      refine wpAnyH_take (i := 18) (oi := ⟨some 88, _, _, _, _, _⟩) (v := .bool true) rfl (by kernel_rfl) (by kernel_rfl) (by kernel_rfl) (fun _ _ _ h => h) (Or.inl ⟨by rfl, ?_⟩) hHeld ?_
      · intro ww hSw
        try dsimp only at hSw
        go_simp
        try with_reducible rfl
        try omega
      try simp only [Act.put, List.setIfInBounds_toArray, List.set_cons_zero, List.set_cons_succ]
      refine wpAnyH_take (i := 19) (oi := ⟨some 89, _, _, _, _, _⟩) (v := .bool true) rfl (by kernel_rfl) (by kernel_rfl) (by kernel_rfl) (fun _ _ _ h => h) (Or.inl ⟨by rfl, ?_⟩) hHeld ?_
      · intro ww hSw
        try dsimp only at hSw
        go_simp
        try with_reducible rfl
        try omega
      try simp only [Act.put, List.setIfInBounds_toArray, List.set_cons_zero, List.set_cons_succ]
      refine wpAnyH_take (i := 20) (oi := ⟨some 90, _, _, _, _, _⟩) (v := .bool true) rfl (by kernel_rfl) (by kernel_rfl) (by kernel_rfl) (fun _ _ _ h => h) (Or.inl ⟨by rfl, ?_⟩) hHeld ?_
      · intro ww hSw
        try dsimp only at hSw
        go_simp
        try with_reducible rfl
        try omega
      try simp only [Act.put, List.setIfInBounds_toArray, List.set_cons_zero, List.set_cons_succ]
      refine wpAnyH_take (i := 21) (oi := ⟨some 91, _, _, _, _, _⟩) (v := ?_) rfl (by kernel_rfl) (by kernel_rfl) (by kernel_rfl) (fun _ _ _ h => h) (Or.inl ⟨by rfl, ?_⟩) hHeld ?_
      rotate_left
      · intro ww hSw
        try dsimp only at hSw
        have H_0 := (H.below hSw).at_ (v := .int .u32 a) 0 rfl
        have H_1 := (H.below hSw).at_ (v := .int .i64 p) 1 rfl
        have H_2 := (H.below hSw).at_ (v := .slice (some ⟨b, o, none⟩) n c) 2 rfl
        have H_3 := (H.below hSw).at_ (v := .int .i64 sh) 3 rfl
        have H_4 := (H.below hSw).at_ (v := .int .i64 wo) 4 rfl
        have H_5 := (H.below hSw).at_ (v := .int .i64 qu) 5 rfl
        have H_6 := (H.below hSw).at_ (v := .int .i64 tr) 6 rfl
        have Hd_0 := (Hd.below hSw).at_ (v := .int .u32 a) 0 rfl
        have Hd_1 := (Hd.below hSw).at_ (v := .int .i64 p) 1 rfl
        have Hd_2 := (Hd.below hSw).at_ (v := .slice A8 n1 c8) 2 rfl
        have Hd_3 := (Hd.below hSw).at_ (v := .int .i64 sh) 3 rfl
        have Hd_4 := (Hd.below hSw).at_ (v := .int .i64 wo) 4 rfl
        have Hd_5 := (Hd.below hSw).at_ (v := .int .i64 qu) 5 rfl
        have Hd_6 := (Hd.below hSw).at_ (v := .int .i64 tr) 6 rfl
        have HX1 := HX.out ww hSw
        go_simp
        try with_reducible rfl
        try omega
      try simp only [Act.put, List.setIfInBounds_toArray, List.set_cons_zero, List.set_cons_succ]
      refine wpAnyH_take (i := 22) (oi := ⟨some 92, _, _, _, _, _⟩) (v := ?_) rfl (by kernel_rfl) (by kernel_rfl) (by kernel_rfl) (fun _ _ _ h => h) (Or.inl ⟨by rfl, ?_⟩) hHeld ?_
      rotate_left
      · intro ww hSw
        try dsimp only at hSw
        go_simp
        try with_reducible rfl
        try omega
      try simp only [Act.put, List.setIfInBounds_toArray, List.set_cons_zero, List.set_cons_succ]
      refine wpAnyH_take (i := 23) (oi := ⟨some 93, _, _, _, _, _⟩) (v := ?_) rfl (by kernel_rfl) (by kernel_rfl) (by kernel_rfl) (fun _ _ _ h => h) (Or.inl ⟨by rfl, ?_⟩) hHeld ?_
      rotate_left
      · intro ww hSw
        try dsimp only at hSw
        have H_0 := (H.below hSw).at_ (v := .int .u32 a) 0 rfl
        have H_1 := (H.below hSw).at_ (v := .int .i64 p) 1 rfl
        have H_2 := (H.below hSw).at_ (v := .slice (some ⟨b, o, none⟩) n c) 2 rfl
        have H_3 := (H.below hSw).at_ (v := .int .i64 sh) 3 rfl
        have H_4 := (H.below hSw).at_ (v := .int .i64 wo) 4 rfl
        have H_5 := (H.below hSw).at_ (v := .int .i64 qu) 5 rfl
        have H_6 := (H.below hSw).at_ (v := .int .i64 tr) 6 rfl
        have Hd_0 := (Hd.below hSw).at_ (v := .int .u32 a) 0 rfl
        have Hd_1 := (Hd.below hSw).at_ (v := .int .i64 p) 1 rfl
        have Hd_2 := (Hd.below hSw).at_ (v := .slice A8 n1 c8) 2 rfl
        have Hd_3 := (Hd.below hSw).at_ (v := .int .i64 sh) 3 rfl
        have Hd_4 := (Hd.below hSw).at_ (v := .int .i64 wo) 4 rfl
        have Hd_5 := (Hd.below hSw).at_ (v := .int .i64 qu) 5 rfl
        have Hd_6 := (Hd.below hSw).at_ (v := .int .i64 tr) 6 rfl
        have HX1 := HX.out ww hSw
        go_simp
        try with_reducible rfl
        try omega
      try simp only [Act.put, List.setIfInBounds_toArray, List.set_cons_zero, List.set_cons_succ]
      refine wpAnyH_take (i := 24) (oi := ⟨some 94, _, _, _, _, _⟩) (v := ?_) rfl (by kernel_rfl) (by kernel_rfl) (by kernel_rfl) (fun _ _ _ h => h) (Or.inl ⟨by rfl, ?_⟩) hHeld ?_
      rotate_left
      · intro ww hSw
        try dsimp only at hSw
        go_simp
        try with_reducible rfl
        try omega
      try simp only [Act.put, List.setIfInBounds_toArray, List.set_cons_zero, List.set_cons_succ]
      refine wpAnyH_take (i := 25) (oi := ⟨some 95, _, _, _, _, _⟩) (v := ?_) rfl (by kernel_rfl) (by kernel_rfl) (by kernel_rfl) (fun _ _ _ h => h) (Or.inl ⟨by rfl, ?_⟩) hHeld ?_
      rotate_left
      · intro ww hSw
        try dsimp only at hSw
        go_simp
        try with_reducible rfl
        try omega
      try simp only [Act.put, List.setIfInBounds_toArray, List.set_cons_zero, List.set_cons_succ]
      refine wpAnyH_take (i := 26) (oi := ⟨some 96, _, _, _, _, _⟩) (v := ?_) rfl (by kernel_rfl) (by kernel_rfl) (by kernel_rfl) (fun _ _ _ h => h) (Or.inl ⟨by rfl, ?_⟩) hHeld ?_
      rotate_left
      · intro ww hSw
        try dsimp only at hSw
        have H_0 := (H.below hSw).at_ (v := .int .u32 a) 0 rfl
        have H_1 := (H.below hSw).at_ (v := .int .i64 p) 1 rfl
        have H_2 := (H.below hSw).at_ (v := .slice (some ⟨b, o, none⟩) n c) 2 rfl
        have H_3 := (H.below hSw).at_ (v := .int .i64 sh) 3 rfl
        have H_4 := (H.below hSw).at_ (v := .int .i64 wo) 4 rfl
        have H_5 := (H.below hSw).at_ (v := .int .i64 qu) 5 rfl
        have H_6 := (H.below hSw).at_ (v := .int .i64 tr) 6 rfl
        have Hd_0 := (Hd.below hSw).at_ (v := .int .u32 a) 0 rfl
        have Hd_1 := (Hd.below hSw).at_ (v := .int .i64 p) 1 rfl
        have Hd_2 := (Hd.below hSw).at_ (v := .slice A8 n1 c8) 2 rfl
        have Hd_3 := (Hd.below hSw).at_ (v := .int .i64 sh) 3 rfl
        have Hd_4 := (Hd.below hSw).at_ (v := .int .i64 wo) 4 rfl
        have Hd_5 := (Hd.below hSw).at_ (v := .int .i64 qu) 5 rfl
        have Hd_6 := (Hd.below hSw).at_ (v := .int .i64 tr) 6 rfl
        have HX1 := HX.out ww hSw
        go_simp
        try with_reducible rfl
        try omega
      try simp only [Act.put, List.setIfInBounds_toArray, List.set_cons_zero, List.set_cons_succ]
      refine wpAnyH_ready (rs := [27]) (by kernel_rfl) (by simp) ?_
      refine AllReadyH.cons (o := ⟨some 97, _, _, _, _, _⟩) rfl (fun K0 hK => ?_) AllReadyH.nil
      go_simp
      refine (held_is (h.below hHeld) (by omega) P3.out).mono ?_
      rintro e ww ⟨rfl, K'⟩
      refine hK.out _ _ (Below.then_ hHeld K') (fun hHeld' => ?_)
      clear hHeld K' hK K0
      have hHeld := hHeld'
      clear hHeld'
      try simp only [Act.put, List.setIfInBounds_toArray, List.set_cons_zero, List.set_cons_succ]
      refine wpAnyH_take (i := 28) (oi := ⟨some 98, _, _, _, _, _⟩) (v := .bool true) rfl (by kernel_rfl) (by kernel_rfl) (by kernel_rfl) (fun _ _ _ h => h) (Or.inl ⟨by rfl, ?_⟩) hHeld ?_
      · intro ww hSw
        try dsimp only at hSw
        go_simp
        try with_reducible rfl
        try omega
      try simp only [Act.put, List.setIfInBounds_toArray, List.set_cons_zero, List.set_cons_succ]
      refine wpAnyH_take (i := 29) (oi := ⟨some 4, _, _, _, _, _⟩) (v := ?_) rfl (by kernel_rfl) (by kernel_rfl) (by kernel_rfl) (fun _ _ _ h => h) (Or.inl ⟨by rfl, ?_⟩) hHeld ?_
      rotate_left
      · intro ww hSw
        try dsimp only at hSw
        go_simp
        try with_reducible rfl
        try omega
      try simp only [Act.put, List.setIfInBounds_toArray, List.set_cons_zero, List.set_cons_succ]
      refine wpAnyH_done (by kernel_rfl) ?_ _
      replace K := Below.then_ K hHeld
      go_wp2
      go_ret
      exact ⟨rfl, K⟩
set_option maxRecDepth 100000 in
set_option maxHeartbeats 1000000 in
theorem some_eq (ha : a < 4294967296) (h : IS .i64 lo w (some ⟨b, o, none⟩) c c xs) (hb : confB a p c xs sh wo qu tr = true) (hM : Much a p M) (hm : M ≤ 4096) (EN : cn xs M = c) (hn64 : c ≤ 64) (hn : 0 < c) (hf : f < 256) (hr : r = f % c) (he : c = r + 1) (hn1 : n1 = c - 1) (hys : Hid (ys = xs.take r ++ xs.drop c)) (P1 : Hid (confB a p n1 ys sh wo qu tr = true)) (P2 : Hid (hasB ys (gi xs r) = false)) (P3 : Hid (hasB xs (gi xs r) = true)) :
    Calls Try.prog 6 #[.agg #[.int .u32 a, .int .i64 p, .slice (some ⟨b, o, none⟩) c c, .int .i64 sh, .int .i64 wo, .int .i64 qu, .int .i64 tr], .int .u8 f] w fun e w' => e = .returned (.bool true) ∧ Below w.heap.size w w' := by
  have f1 : ((c : Int) != (c : Int)) = false := by simp
  have f2 : IntKind.i64.wrap ((M : Int) - (c : Int)) = (M : Int) - (c : Int) := IntWalk.i64_in _ (by omega)
  have f3 : (((M : Int) - (c : Int)) != ((M : Int) - (c : Int))) = false := by simp
  have i1 : (f : Int).tmod (c : Int) = (r : Int) := by rw [Int.tmod_eq_emod_of_nonneg (by omega), hr, Int.natCast_emod]
  have i2 : (f : Int) % (c : Int) = (r : Int) := by rw [hr, Int.natCast_emod]
  have lr : r < c := by rw [hr]; exact Nat.mod_lt _ hn
  clear hr
  have hcap := h.cap
  have hmx := h.most
  have ew : IntKind.i64.wrap ((r : Int) + 1) = (c : Int) := by rw [IntWalk.i64_in _ (by omega)]; omega
  have le_ : c ≤ c := by omega
  have hlen : r + 0 = n1 := by omega
  have l1 : n1 ≤ 64 := by omega
  have f5 : IntKind.i64.wrap ((M : Int) - (c : Int) + 1) = (M : Int) - (c : Int) + 1 := IntWalk.i64_in _ (by omega)
  have f6 : (((M : Int) - (n1 : Int)) == ((M : Int) - (c : Int) + 1)) = true := by simp; omega
  clear hn1
  clear he
  obtain ⟨i0, hi, hz0, hz1, hz2⟩ := info_parts int_info
  have t3 : ((c : Int) == 0) = false := by simp; omega
  have t4 : ¬ (c : Int) = 0 := by omega
  have t5 : IntKind.i64.wrap (r : Int) = (r : Int) := IntWalk.i64_in _ (by omega)
  replace hb := Lib.hid hb
  have hp := hM.pos
  have hl := h.len
  have e1 : decide ((4096 : Int) < (M : Int)) = false := by simp; omega
  replace EN := Lib.hid EN
  have K := below_alloc w (.cells #[.int .u32 a, .int .i64 p, .slice (some ⟨b, o, none⟩) c c, .int .i64 sh, .int .i64 wo, .int .i64 qu, .int .i64 tr] 27)
  have H := Bk.new w #[.int .u32 a, .int .i64 p, .slice (some ⟨b, o, none⟩) c c, .int .i64 sh, .int .i64 wo, .int .i64 qu, .int .i64 tr] 27
  replace h := h.below K
  go_enter Try.func6, Try.ntmps6
  go_wp2_with fail
  generalize w.alloc (.cells #[.int .u32 a, .int .i64 p, .slice (some ⟨b, o, none⟩) c c, .int .i64 sh, .int .i64 wo, .int .i64 qu, .int .i64 tr] 27) = w1 at H K h ⊢
  generalize w.heap.size = g at H ⊢
  refine (awake_any _).mono ?_
  rintro e w2 ⟨rfl, K'⟩
  replace H := H.below K'
  replace h := h.below K'
  replace K := Below.then_ K K'
  clear K'
  have H_0 := H.at_ (v := .int .u32 a) 0 rfl
  have H_1 := H.at_ (v := .int .i64 p) 1 rfl
  have H_2 := H.at_ (v := .slice (some ⟨b, o, none⟩) c c) 2 rfl
  have H_3 := H.at_ (v := .int .i64 sh) 3 rfl
  have H_4 := H.at_ (v := .int .i64 wo) 4 rfl
  have H_5 := H.at_ (v := .int .i64 qu) 5 rfl
  have H_6 := H.at_ (v := .int .i64 tr) 6 rfl
  have H_z := H.lt
  go_wp2_with fail
  refine (rmay_is ha h hb.out).mono ?_
  rintro e w3 ⟨rfl, K'⟩
  clear H_0 H_1 H_2 H_3 H_4 H_5 H_6 H_z
  replace H := H.below K'
  replace h := h.below K'
  replace K := Below.then_ K K'
  clear K'
  have H_0 := H.at_ (v := .int .u32 a) 0 rfl
  have H_1 := H.at_ (v := .int .i64 p) 1 rfl
  have H_2 := H.at_ (v := .slice (some ⟨b, o, none⟩) c c) 2 rfl
  have H_3 := H.at_ (v := .int .i64 sh) 3 rfl
  have H_4 := H.at_ (v := .int .i64 wo) 4 rfl
  have H_5 := H.at_ (v := .int .i64 qu) 5 rfl
  have H_6 := H.at_ (v := .int .i64 tr) 6 rfl
  have H_z := H.lt
  go_wp2_with fail
  refine (many_yes ha hM).mono ?_
  rintro e w4 ⟨rfl, K'⟩
  clear H_0 H_1 H_2 H_3 H_4 H_5 H_6 H_z
  replace H := H.below K'
  replace h := h.below K'
  replace K := Below.then_ K K'
  clear K'
  go_wp2_with fail
  go_loopw [5, 6] (fun s i wr => ∃ k : Nat, k ≤ M ∧ i = .int .i64 k ∧ s = .int .i64 (cn xs k : Nat) ∧ Below w4.heap.size w4 wr) (fun _ i _ => M - (intOf i).toNat)
  case atStart => exact ⟨0, Nat.zero_le _, rfl, rfl, Below.refl _ _⟩
  case round =>
    obtain ⟨k, hk, rfl, hs, Kr⟩ := hrel
    replace H := H.below Kr
    replace h := h.below Kr
    replace K := Below.then_ K Kr
    by_cases hlt : k < M
    · have hc0 := cn_le xs k
      subst hs
      have KR := Kr
      have H_0 := H.at_ (v := .int .u32 a) 0 rfl
      have H_1 := H.at_ (v := .int .i64 p) 1 rfl
      have H_2 := H.at_ (v := .slice (some ⟨b, o, none⟩) c c) 2 rfl
      have H_3 := H.at_ (v := .int .i64 sh) 3 rfl
      have H_4 := H.at_ (v := .int .i64 wo) 4 rfl
      have H_5 := H.at_ (v := .int .i64 qu) 5 rfl
      have H_6 := H.at_ (v := .int .i64 tr) 6 rfl
      have H_z := H.lt
      go_wp2_with fail
      refine (many_yes ha hM).mono ?_
      rintro e w15 ⟨rfl, K'⟩
      clear H_0 H_1 H_2 H_3 H_4 H_5 H_6 H_z
      replace H := H.below K'
      replace h := h.below K'
      replace KR := Below.then_ KR K'
      replace K := Below.then_ K K'
      clear K'
      cases hh : hasB xs (k : Int) with
      | true =>
        have E := Lib.hid (cn_yes hh)
        have H_0 := H.at_ (v := .int .u32 a) 0 rfl
        have H_1 := H.at_ (v := .int .i64 p) 1 rfl
        have H_2 := H.at_ (v := .slice (some ⟨b, o, none⟩) c c) 2 rfl
        have H_3 := H.at_ (v := .int .i64 sh) 3 rfl
        have H_4 := H.at_ (v := .int .i64 wo) 4 rfl
        have H_5 := H.at_ (v := .int .i64 qu) 5 rfl
        have H_6 := H.at_ (v := .int .i64 tr) 6 rfl
        have H_z := H.lt
        go_wp2_with fail
        refine (held_is h (by omega) hh).mono ?_
        rintro e w16 ⟨rfl, K'⟩
        clear H_0 H_1 H_2 H_3 H_4 H_5 H_6 H_z
        replace H := H.below K'
        replace h := h.below K'
        replace KR := Below.then_ KR K'
        replace K := Below.then_ K K'
        clear K'
        go_wp2
        go_roundw
        case rel => exact ⟨k + 1, by omega, by go_num, by rw [E.out]; go_num, KR⟩
        case measure => simp [intOf]; omega
      | false =>
        have E := Lib.hid (cn_no hh)
        have H_0 := H.at_ (v := .int .u32 a) 0 rfl
        have H_1 := H.at_ (v := .int .i64 p) 1 rfl
        have H_2 := H.at_ (v := .slice (some ⟨b, o, none⟩) c c) 2 rfl
        have H_3 := H.at_ (v := .int .i64 sh) 3 rfl
        have H_4 := H.at_ (v := .int .i64 wo) 4 rfl
        have H_5 := H.at_ (v := .int .i64 qu) 5 rfl
        have H_6 := H.at_ (v := .int .i64 tr) 6 rfl
        have H_z := H.lt
        go_wp2_with fail
        refine (held_is h (by omega) hh).mono ?_
        rintro e w16 ⟨rfl, K'⟩
        clear H_0 H_1 H_2 H_3 H_4 H_5 H_6 H_z
        replace H := H.below K'
        replace h := h.below K'
        replace KR := Below.then_ KR K'
        replace K := Below.then_ K K'
        clear K'
        go_wp2
        go_roundw
        case rel => exact ⟨k + 1, by omega, by go_num, by rw [E.out], KR⟩
        case measure => simp [intOf]; omega
    · obtain rfl : k = M := by omega
      rw [EN.out] at hs
      subst hs
      clear EN Kr
      have H_0 := H.at_ (v := .int .u32 a) 0 rfl
      have H_1 := H.at_ (v := .int .i64 p) 1 rfl
      have H_2 := H.at_ (v := .slice (some ⟨b, o, none⟩) c c) 2 rfl
      have H_3 := H.at_ (v := .int .i64 sh) 3 rfl
      have H_4 := H.at_ (v := .int .i64 wo) 4 rfl
      have H_5 := H.at_ (v := .int .i64 qu) 5 rfl
      have H_6 := H.at_ (v := .int .i64 tr) 6 rfl
      have H_z := H.lt
      go_wp2_with fail
      refine (many_yes ha hM).mono ?_
      rintro e w25 ⟨rfl, K'⟩
      clear H_0 H_1 H_2 H_3 H_4 H_5 H_6 H_z
      replace H := H.below K'
      replace h := h.below K'
      replace K := Below.then_ K K'
      clear K'
      go_wp2_with fail
      refine wp_region_held_drew (S := fun w' => Below w25.heap.size w25 w') (by kernel_rfl) (Below.refl _ _).drew (fun hHeld => ?_)
      refine wpAnyH_take (i := 0) (oi := ⟨some 35, _, _, _, _, _⟩) (v := ?_) rfl (by kernel_rfl) (by kernel_rfl) (by kernel_rfl) (fun _ _ _ h => h) (Or.inl ⟨by rfl, ?_⟩) hHeld ?_
      rotate_left
      · intro ww hSw
        try dsimp only at hSw
        go_simp
        try with_reducible rfl
        try omega
      try simp only [Act.put, List.setIfInBounds_toArray, List.set_cons_zero, List.set_cons_succ]
      refine wpAnyH_take (i := 1) (oi := ⟨some 36, _, _, _, _, _⟩) (v := ?_) rfl (by kernel_rfl) (by kernel_rfl) (by kernel_rfl) (fun _ _ _ h => h) (Or.inl ⟨by rfl, ?_⟩) hHeld ?_
      rotate_left
      · intro ww hSw
        try dsimp only at hSw
        go_simp
        try with_reducible rfl
        try omega
      try simp only [Act.put, List.setIfInBounds_toArray, List.set_cons_zero, List.set_cons_succ]
      refine wpAnyH_take (i := 2) (oi := ⟨some 37, _, _, _, _, _⟩) (v := ?_) rfl (by kernel_rfl) (by kernel_rfl) (by kernel_rfl) (fun _ _ _ h => h) (Or.inl ⟨by rfl, ?_⟩) hHeld ?_
      rotate_left
      · intro ww hSw
        try dsimp only at hSw
        have H_0 := (H.below hSw).at_ (v := .int .u32 a) 0 rfl
        have H_1 := (H.below hSw).at_ (v := .int .i64 p) 1 rfl
        have H_2 := (H.below hSw).at_ (v := .slice (some ⟨b, o, none⟩) c c) 2 rfl
        have H_3 := (H.below hSw).at_ (v := .int .i64 sh) 3 rfl
        have H_4 := (H.below hSw).at_ (v := .int .i64 wo) 4 rfl
        have H_5 := (H.below hSw).at_ (v := .int .i64 qu) 5 rfl
        have H_6 := (H.below hSw).at_ (v := .int .i64 tr) 6 rfl
        go_simp
        try with_reducible rfl
        try omega
      try simp only [Act.put, List.setIfInBounds_toArray, List.set_cons_zero, List.set_cons_succ]
      refine wpAnyH_take (i := 3) (oi := ⟨some 38, _, _, _, _, _⟩) (v := ?_) rfl (by kernel_rfl) (by kernel_rfl) (by kernel_rfl) (fun _ _ _ h => h) (Or.inl ⟨by rfl, ?_⟩) hHeld ?_
      rotate_left
      · intro ww hSw
        try dsimp only at hSw
        go_simp
        try with_reducible rfl
        try omega
      try simp only [Act.put, List.setIfInBounds_toArray, List.set_cons_zero, List.set_cons_succ]
      refine wpAnyH_take (i := 4) (oi := ⟨some 39, _, _, _, _, _⟩) (v := .bool false) rfl (by kernel_rfl) (by kernel_rfl) (by kernel_rfl) (fun _ _ _ h => h) (Or.inl ⟨by rfl, ?_⟩) hHeld ?_
      · intro ww hSw
        try dsimp only at hSw
        go_simp
        try with_reducible rfl
        try omega
      try simp only [Act.put, List.setIfInBounds_toArray, List.set_cons_zero, List.set_cons_succ]
      refine wpAnyH_take (i := 5) (oi := ⟨some 40, _, _, _, _, _⟩) (v := .bool false) rfl (by kernel_rfl) (by kernel_rfl) (by kernel_rfl) (fun _ _ _ h => h) (Or.inl ⟨by rfl, ?_⟩) hHeld ?_
      · intro ww hSw
        try dsimp only at hSw
        go_simp
        try with_reducible rfl
        try omega
      try simp only [Act.put, List.setIfInBounds_toArray, List.set_cons_zero, List.set_cons_succ]
      refine wpAnyH_take (i := 6) (oi := ⟨some 41, _, _, _, _, _⟩) (v := ?_) rfl (by kernel_rfl) (by kernel_rfl) (by kernel_rfl) (fun _ _ _ h => h) (Or.inl ⟨by rfl, ?_⟩) hHeld ?_
      rotate_left
      · intro ww hSw
        try dsimp only at hSw
        have H_0 := (H.below hSw).at_ (v := .int .u32 a) 0 rfl
        have H_1 := (H.below hSw).at_ (v := .int .i64 p) 1 rfl
        have H_2 := (H.below hSw).at_ (v := .slice (some ⟨b, o, none⟩) c c) 2 rfl
        have H_3 := (H.below hSw).at_ (v := .int .i64 sh) 3 rfl
        have H_4 := (H.below hSw).at_ (v := .int .i64 wo) 4 rfl
        have H_5 := (H.below hSw).at_ (v := .int .i64 qu) 5 rfl
        have H_6 := (H.below hSw).at_ (v := .int .i64 tr) 6 rfl
        go_simp
        try with_reducible rfl
        try omega
      try simp only [Act.put, List.setIfInBounds_toArray, List.set_cons_zero, List.set_cons_succ]
      refine wpAnyH_take (i := 8) (oi := ⟨some 43, _, _, _, _, _⟩) (v := ?_) rfl (by kernel_rfl) (by kernel_rfl) (by kernel_rfl) (fun _ _ _ h => h) (Or.inl ⟨by rfl, ?_⟩) hHeld ?_
      rotate_left
      · intro ww hSw
        try dsimp only at hSw
        go_simp
        try with_reducible rfl
        try omega
      try simp only [Act.put, List.setIfInBounds_toArray, List.set_cons_zero, List.set_cons_succ]
      refine wpAnyH_take (i := 9) (oi := ⟨some 44, _, _, _, _, _⟩) (v := ?_) rfl (by kernel_rfl) (by kernel_rfl) (by kernel_rfl) (fun _ _ _ h => h) (Or.inl ⟨by rfl, ?_⟩) hHeld ?_
      rotate_left
      · intro ww hSw
        try dsimp only at hSw
        have H_0 := (H.below hSw).at_ (v := .int .u32 a) 0 rfl
        have H_1 := (H.below hSw).at_ (v := .int .i64 p) 1 rfl
        have H_2 := (H.below hSw).at_ (v := .slice (some ⟨b, o, none⟩) c c) 2 rfl
        have H_3 := (H.below hSw).at_ (v := .int .i64 sh) 3 rfl
        have H_4 := (H.below hSw).at_ (v := .int .i64 wo) 4 rfl
        have H_5 := (H.below hSw).at_ (v := .int .i64 qu) 5 rfl
        have H_6 := (H.below hSw).at_ (v := .int .i64 tr) 6 rfl
        go_simp
        try with_reducible rfl
        try omega
      try simp only [Act.put, List.setIfInBounds_toArray, List.set_cons_zero, List.set_cons_succ]
      refine wpAnyH_take (i := 11) (oi := ⟨some 46, _, _, _, _, _⟩) (v := ?_) rfl (by kernel_rfl) (by kernel_rfl) (by kernel_rfl) (fun _ _ _ h => h) (Or.inl ⟨by rfl, ?_⟩) hHeld ?_
      rotate_left
      · intro ww hSw
        try dsimp only at hSw
        go_simp
        try with_reducible rfl
        try omega
      try simp only [Act.put, List.setIfInBounds_toArray, List.set_cons_zero, List.set_cons_succ]
      refine wpAnyH_ready (rs := [7]) (by kernel_rfl) (by simp) ?_
      refine AllReadyH.cons (o := ⟨some 42, _, _, _, _, _⟩) rfl (fun K0 hK => ?_) AllReadyH.nil
      go_simp
      refine (usable_any ha hM (by omega)).mono ?_
      rintro e ww ⟨rfl, K'⟩
      refine hK.out _ _ (Below.then_ hHeld K') (fun hHeld' => ?_)
      clear hHeld K' hK K0
      have hHeld := hHeld'
      clear hHeld'
      try simp only [Act.put, List.setIfInBounds_toArray, List.set_cons_zero, List.set_cons_succ]
      refine wpAnyH_ready (rs := [10]) (by kernel_rfl) (by simp) ?_
      refine AllReadyH.cons (o := ⟨some 45, _, _, _, _, _⟩) rfl (fun K0 hK => ?_) AllReadyH.nil
      go_simp
      refine (many_yes ha hM).mono ?_
      rintro e ww ⟨rfl, K'⟩
      refine hK.out _ _ (Below.then_ hHeld K') (fun hHeld' => ?_)
      clear hHeld K' hK K0
      have hHeld := hHeld'
      clear hHeld'
      try simp only [Act.put, List.setIfInBounds_toArray, List.set_cons_zero, List.set_cons_succ]
      refine wpAnyH_take (i := 12) (oi := ⟨some 47, _, _, _, _, _⟩) (v := .int .i64 ((k : Int) - (c : Int))) rfl (by kernel_rfl) (by kernel_rfl) (by kernel_rfl) (fun _ _ _ h => h) (Or.inl ⟨by rfl, ?_⟩) hHeld ?_
      · intro ww hSw
        try dsimp only at hSw
        go_simp
        try with_reducible rfl
        try omega
      try simp only [Act.put, List.setIfInBounds_toArray, List.set_cons_zero, List.set_cons_succ]
      refine wpAnyH_take (i := 13) (oi := ⟨some 48, _, _, _, _, _⟩) (v := .bool false) rfl (by kernel_rfl) (by kernel_rfl) (by kernel_rfl) (fun _ _ _ h => h) (Or.inl ⟨by rfl, ?_⟩) hHeld ?_
      · intro ww hSw
        try dsimp only at hSw
        go_simp
        try with_reducible rfl
        try omega
      try simp only [Act.put, List.setIfInBounds_toArray, List.set_cons_zero, List.set_cons_succ]
      refine wpAnyH_take (i := 14) (oi := ⟨some 49, _, _, _, _, _⟩) (v := .bool false) rfl (by kernel_rfl) (by kernel_rfl) (by kernel_rfl) (fun _ _ _ h => h) (Or.inl ⟨by rfl, ?_⟩) hHeld ?_
      · intro ww hSw
        try dsimp only at hSw
        go_simp
        try with_reducible rfl
        try omega
      try simp only [Act.put, List.setIfInBounds_toArray, List.set_cons_zero, List.set_cons_succ]
      refine wpAnyH_done (by kernel_rfl) ?_ _
      replace H := H.below hHeld
      replace h := h.below hHeld
      replace K := Below.then_ K hHeld
      clear hHeld
      have H_0 := H.at_ (v := .int .u32 a) 0 rfl
      have H_1 := H.at_ (v := .int .i64 p) 1 rfl
      have H_2 := H.at_ (v := .slice (some ⟨b, o, none⟩) c c) 2 rfl
      have H_3 := H.at_ (v := .int .i64 sh) 3 rfl
      have H_4 := H.at_ (v := .int .i64 wo) 4 rfl
      have H_5 := H.at_ (v := .int .i64 qu) 5 rfl
      have H_6 := H.at_ (v := .int .i64 tr) 6 rfl
      have H_z := H.lt
      go_wp2_with fail
      clear H_0 H_1 H_2 H_3 H_4 H_5 H_6 H_z
      have Ls := below_alloc ww (.cells #[.int .u32 a, .int .i64 p, .slice (some ⟨b, o, none⟩) c c, .int .i64 sh, .int .i64 wo, .int .i64 qu, .int .i64 tr] 27)
      have Ds := Bk.new ww #[.int .u32 a, .int .i64 p, .slice (some ⟨b, o, none⟩) c c, .int .i64 sh, .int .i64 wo, .int .i64 qu, .int .i64 tr] 27
      have hsz : ww.heap.size + 1 = (ww.alloc (.cells #[.int .u32 a, .int .i64 p, .slice (some ⟨b, o, none⟩) c c, .int .i64 sh, .int .i64 wo, .int .i64 qu, .int .i64 tr] 27)).heap.size := by rw [World.size_alloc]
      refine wp_region_held_drew (S := fun w' => Below ww.heap.size ww w' ∧ ∃ v, Bk w' ww.heap.size 27 #[.int .u32 a, .int .i64 p, v, .int .i64 sh, .int .i64 wo, .int .i64 qu, .int .i64 tr]) (by kernel_rfl) ⟨Ls.drew, _, Ds⟩ (fun hHeld => ?_)
      have hw5 : (ww.alloc (.cells #[.int .u32 a, .int .i64 p, .slice (some ⟨b, o, none⟩) c c, .int .i64 sh, .int .i64 wo, .int .i64 qu, .int .i64 tr] 27)).drew.heap.size = (ww.alloc (.cells #[.int .u32 a, .int .i64 p, .slice (some ⟨b, o, none⟩) c c, .int .i64 sh, .int .i64 wo, .int .i64 qu, .int .i64 tr] 27)).heap.size := rfl
      rw [← hw5] at hsz
      clear hw5 Ls Ds
      generalize (ww.alloc (.cells #[.int .u32 a, .int .i64 p, .slice (some ⟨b, o, none⟩) c c, .int .i64 sh, .int .i64 wo, .int .i64 qu, .int .i64 tr] 27)).drew = w5 at hHeld hsz ⊢
      refine wpAnyH_take (i := 1) (oi := ⟨some 58, _, _, _, _, _⟩) (v := ?_) rfl (by kernel_rfl) (by kernel_rfl) (by kernel_rfl) (fun _ _ _ h => h) (Or.inl ⟨by rfl, ?_⟩) hHeld ?_
      rotate_left
      · intro ww hSw
        try dsimp only at hSw
        go_simp
        try with_reducible rfl
        try omega
      try simp only [Act.put, List.setIfInBounds_toArray, List.set_cons_zero, List.set_cons_succ]
      refine wpAnyH_take (i := 2) (oi := ⟨some 59, _, _, _, _, _⟩) (v := ?_) rfl (by kernel_rfl) (by kernel_rfl) (by kernel_rfl) (fun _ _ _ h => h) (Or.inl ⟨by rfl, ?_⟩) hHeld ?_
      rotate_left
      · intro ww hSw
        try dsimp only at hSw
        have H_0 := (H.below hSw.1).at_ (v := .int .u32 a) 0 rfl
        have H_1 := (H.below hSw.1).at_ (v := .int .i64 p) 1 rfl
        have H_2 := (H.below hSw.1).at_ (v := .slice (some ⟨b, o, none⟩) c c) 2 rfl
        have H_3 := (H.below hSw.1).at_ (v := .int .i64 sh) 3 rfl
        have H_4 := (H.below hSw.1).at_ (v := .int .i64 wo) 4 rfl
        have H_5 := (H.below hSw.1).at_ (v := .int .i64 qu) 5 rfl
        have H_6 := (H.below hSw.1).at_ (v := .int .i64 tr) 6 rfl
        go_simp
        try with_reducible rfl
        try omega
      try simp only [Act.put, List.setIfInBounds_toArray, List.set_cons_zero, List.set_cons_succ]
      refine wpAnyH_take (i := 3) (oi := ⟨some 60, _, _, _, _, _⟩) (v := ?_) rfl (by kernel_rfl) (by kernel_rfl) (by kernel_rfl) (fun _ _ _ h => h) (Or.inl ⟨by rfl, ?_⟩) hHeld ?_
      rotate_left
      · intro ww hSw
        try dsimp only at hSw
        go_simp
        try with_reducible rfl
        try omega
      try simp only [Act.put, List.setIfInBounds_toArray, List.set_cons_zero, List.set_cons_succ]
      refine wpAnyH_take (i := 4) (oi := ⟨some 61, _, _, _, _, _⟩) (v := .slice (some ⟨b, o, none⟩) r c) rfl (by kernel_rfl) (by kernel_rfl) (by kernel_rfl) (fun _ _ _ h => h) (Or.inl ⟨by rfl, ?_⟩) hHeld ?_
      · intro ww hSw
        try dsimp only at hSw
        go_simp
        try with_reducible rfl
        try omega
      try simp only [Act.put, List.setIfInBounds_toArray, List.set_cons_zero, List.set_cons_succ]
      refine wpAnyH_take (i := 6) (oi := ⟨some 63, _, _, _, _, _⟩) (v := ?_) rfl (by kernel_rfl) (by kernel_rfl) (by kernel_rfl) (fun _ _ _ h => h) (Or.inl ⟨by rfl, ?_⟩) hHeld ?_
      rotate_left
      · intro ww hSw
        try dsimp only at hSw
        go_simp
        try with_reducible rfl
        try omega
      try simp only [Act.put, List.setIfInBounds_toArray, List.set_cons_zero, List.set_cons_succ]
      refine wpAnyH_take (i := 7) (oi := ⟨some 64, _, _, _, _, _⟩) (v := ?_) rfl (by kernel_rfl) (by kernel_rfl) (by kernel_rfl) (fun _ _ _ h => h) (Or.inl ⟨by rfl, ?_⟩) hHeld ?_
      rotate_left
      · intro ww hSw
        try dsimp only at hSw
        have H_0 := (H.below hSw.1).at_ (v := .int .u32 a) 0 rfl
        have H_1 := (H.below hSw.1).at_ (v := .int .i64 p) 1 rfl
        have H_2 := (H.below hSw.1).at_ (v := .slice (some ⟨b, o, none⟩) c c) 2 rfl
        have H_3 := (H.below hSw.1).at_ (v := .int .i64 sh) 3 rfl
        have H_4 := (H.below hSw.1).at_ (v := .int .i64 wo) 4 rfl
        have H_5 := (H.below hSw.1).at_ (v := .int .i64 qu) 5 rfl
        have H_6 := (H.below hSw.1).at_ (v := .int .i64 tr) 6 rfl
        go_simp
        try with_reducible rfl
        try omega
      try simp only [Act.put, List.setIfInBounds_toArray, List.set_cons_zero, List.set_cons_succ]
      refine wpAnyH_take (i := 8) (oi := ⟨some 65, _, _, _, _, _⟩) (v := ?_) rfl (by kernel_rfl) (by kernel_rfl) (by kernel_rfl) (fun _ _ _ h => h) (Or.inl ⟨by rfl, ?_⟩) hHeld ?_
      rotate_left
      · intro ww hSw
        try dsimp only at hSw
        go_simp
        try with_reducible rfl
        try omega
      try simp only [Act.put, List.setIfInBounds_toArray, List.set_cons_zero, List.set_cons_succ]
      refine wpAnyH_take (i := 9) (oi := ⟨some 66, _, _, _, _, _⟩) (v := .int .i64 c) rfl (by kernel_rfl) (by kernel_rfl) (by kernel_rfl) (fun _ _ _ h => h) (Or.inl ⟨by rfl, ?_⟩) hHeld ?_
      · intro ww hSw
        try dsimp only at hSw
        go_simp
        try with_reducible rfl
        try omega
      try simp only [Act.put, List.setIfInBounds_toArray, List.set_cons_zero, List.set_cons_succ]
      refine wpAnyH_take (i := 10) (oi := ⟨some 67, _, _, _, _, _⟩) (v := .slice (some ⟨b, o, none⟩) 0 0) rfl (by kernel_rfl) (by kernel_rfl) (by kernel_rfl) (fun _ _ _ h => h) (Or.inl ⟨by rfl, ?_⟩) hHeld ?_
      · intro ww hSw
        try dsimp only at hSw
        go_simp
        try with_reducible rfl
        try omega
      try simp only [Act.put, List.setIfInBounds_toArray, List.set_cons_zero, List.set_cons_succ]
      refine wpAnyH_ready (rs := [0]) (by kernel_rfl) (by simp) ?_
      refine AllReadyH.cons (o := ⟨some 57, _, _, _, _, _⟩) rfl (fun K0 hK => ?_) AllReadyH.nil
      go_simp
      have O6 : (w5.alloc (.cells #[] 3)).ownsRow w5.heap.size 3 1 (.slice (some ⟨w5.heap.size, 0, none⟩) 0 0) 0 (([] : List Int).map (iv .i64)) := World.ownsRow_lit w5 #[] 0 (Nat.le_refl _) (by unfold maxLen; omega) rfl
      have L6 := Below.then_ hHeld.1 (below_alloc w5 (.cells #[] 3))
      obtain ⟨vd, D5⟩ := hHeld.2
      have D6 := D5.alloc (.cells #[] 3)
      have z6 : w5.heap.size ≤ (w5.alloc (.cells #[] 3)).heap.size := by rw [World.size_alloc]; omega
      refine hK.out _ _ ⟨L6, _, D6⟩ (fun hHeld' => ?_)
      clear D5 hHeld
      clear hK K0
      have hHeld := hHeld'
      clear hHeld'
      have z5 := hsz
      clear hsz
      generalize w5.alloc (.cells #[] 3) = w6 at O6 L6 D6 z6 hHeld ⊢
      generalize w5.heap.size = g0 at O6 z6 z5 ⊢
      obtain ⟨A7, c7, w7, r7, O7, G7, _⟩ := run_append_onto (P := Try.prog) Try.underlying25 hi hz0 hz1 hz2 O6 (take_is (h.below L6) (d := r) (by omega)) (by omega) z6 25
      rw [Nat.zero_add] at r7 O7
      try simp only [Act.put, List.setIfInBounds_toArray, List.set_cons_zero, List.set_cons_succ]
      refine wpAnyH_ready (rs := [5]) (by kernel_rfl) (by simp) ?_
      refine AllReadyH.cons (o := ⟨some 62, _, _, _, _, _⟩) rfl (fun K0 hK => ?_) AllReadyH.nil
      rw [if_pos (by rfl)]
      refine oper_append_run (.tmp 57) (.tmp 61) 25 rfl _ _ _ _ rfl rfl r7 ?_
      have B7 : Below (ww.heap.size + 1) w6 w7 := (Below.refl _ _).grown G7 (by omega) (fun k hk => by have := own_ge O6 k hk; omega)
      have L7 := L6.trans (B7.mono (Nat.le_succ _))
      have D7 := D6.under B7 (Nat.lt_succ_self _)
      have z7 : g0 ≤ w7.heap.size := Nat.le_trans z6 B7.size
      refine hK.out _ _ ⟨L7, _, D7⟩ (fun hHeld' => ?_)
      clear hHeld hK K0
      have hHeld := hHeld'
      clear hHeld'
      clear r7 L6 D6 B7 G7 O6 z6
      have I7 := (h.below L7).cut_eq (Nat.le_refl _)
      rw [Nat.sub_self] at I7
      obtain ⟨A8, c8, w8, r8, O8, G8, _⟩ := run_append_onto (P := Try.prog) Try.underlying25 hi hz0 hz1 hz2 O7 I7 (by omega) z7 25
      rw [hlen] at r8 O8
      try simp only [Act.put, List.setIfInBounds_toArray, List.set_cons_zero, List.set_cons_succ]
      refine wpAnyH_ready (rs := [11]) (by kernel_rfl) (by simp) ?_
      refine AllReadyH.cons (o := ⟨some 68, _, _, _, _, _⟩) rfl (fun K0 hK => ?_) AllReadyH.nil
      rw [if_pos (by rfl)]
      refine oper_append_run (.tmp 62) (.tmp 67) 25 rfl _ _ _ _ rfl rfl r8 ?_
      have B8 : Below (ww.heap.size + 1) w7 w8 := (Below.refl _ _).grown G8 (by omega) (fun k hk => by have := own_ge O7 k hk; omega)
      have L8 := L7.trans (B8.mono (Nat.le_succ _))
      have D8 := D7.under B8 (Nat.lt_succ_self _)
      refine hK.out _ _ ⟨L8, _, D8⟩ (fun hHeld' => ?_)
      clear hHeld hK K0
      have hHeld := hHeld'
      clear hHeld'
      clear r8 L7 D7 B8 G8 O7 z7 I7
      try simp only [Act.put, List.setIfInBounds_toArray, List.set_cons_zero, List.set_cons_succ]
      refine wpAnyH_take (i := 12) (oi := ⟨some 69, _, _, _, _, _⟩) (v := ?_) rfl (by kernel_rfl) (by kernel_rfl) (by kernel_rfl) (fun _ _ _ h => h) (Or.inl ⟨by rfl, ?_⟩) hHeld ?_
      rotate_left
      · intro ww hSw
        try dsimp only at hSw
        go_simp
        try with_reducible rfl
        try omega
      try simp only [Act.put, List.setIfInBounds_toArray, List.set_cons_zero, List.set_cons_succ]
      refine wpAnyH_ready (rs := [13]) (by kernel_rfl) (by simp) ?_
      refine AllReadyH.cons (o := ⟨none, _, _, _, _, _⟩) rfl (fun K0 hK => ?_) AllReadyH.nil
      have d2 := D8.at_ (v := vd) 2 rfl
      have dz := D8.fz 2
      have dl := D8.lt
      go_simp
      have L9 : Below ww.heap.size ww (w8.setCell ⟨ww.heap.size, 2, none⟩ (.slice A8 n1 c8)) := L8.setCell (Nat.le_refl _) _
      have D9 : Bk (w8.setCell ⟨ww.heap.size, 2, none⟩ (.slice A8 n1 c8)) ww.heap.size 27 #[.int .u32 a, .int .i64 p, .slice A8 n1 c8, .int .i64 sh, .int .i64 wo, .int .i64 qu, .int .i64 tr] := bk_set D8
      refine hK.out _ _ ⟨L9, _, D9⟩ (fun hHeld' => ?_)
      clear hHeld hK K0 hHeld' d2 dz dl
      try simp only [Act.put, List.setIfInBounds_toArray, List.set_cons_zero, List.set_cons_succ]
      refine wpAnyH_done (by kernel_rfl) ?_ _
      obtain ⟨A9, c9, e9, I9⟩ := IS.of_own O8
      injection e9 with e9 _ e10
      subst e9 e10
      replace I9 := (I9.set_low (p := ⟨ww.heap.size, 2, none⟩) (show ww.heap.size < g0 by omega) (.slice A8 n1 c8)).lower (Nat.zero_le g0)
      clear L8 D8 O8
      rw [List.nil_append, ← hys.out] at I9
      replace H := H.below L9
      replace h := h.below L9
      replace K := Below.then_ K L9
      clear L9
      generalize w8.setCell ⟨ww.heap.size, 2, none⟩ (.slice A8 n1 c8) = wz at D9 I9 H h K ⊢
      have Hd := D9
      clear D9
      generalize ww.heap.size = gd at Hd ⊢
      have HX : Hid (∀ wq, Below wz.heap.size wz wq → wq.cell? ⟨b, o + r, none⟩ = some (.int .i64 (gi xs r))) := fun wq Kw => by
        obtain ⟨b', o', eb, _, hc'⟩ := (h.below Kw).get lr
        injection eb with eb
        injection eb with eb1 eb2
        subst eb1; subst eb2
        exact hc'
      go_wp2_with fail
      refine wp_region_held_drew (S := fun w' => Below wz.heap.size wz w') (by kernel_rfl) (Below.refl _ _).drew (fun hHeld => ?_)
      refine wpAnyH_take (i := 0) (oi := ⟨some 70, _, _, _, _, _⟩) (v := ?_) rfl (by kernel_rfl) (by kernel_rfl) (by kernel_rfl) (fun _ _ _ h => h) (Or.inl ⟨by rfl, ?_⟩) hHeld ?_
      rotate_left
      · intro ww hSw
        try dsimp only at hSw
        have H_0 := (H.below hSw).at_ (v := .int .u32 a) 0 rfl
        have H_1 := (H.below hSw).at_ (v := .int .i64 p) 1 rfl
        have H_2 := (H.below hSw).at_ (v := .slice (some ⟨b, o, none⟩) c c) 2 rfl
        have H_3 := (H.below hSw).at_ (v := .int .i64 sh) 3 rfl
        have H_4 := (H.below hSw).at_ (v := .int .i64 wo) 4 rfl
        have H_5 := (H.below hSw).at_ (v := .int .i64 qu) 5 rfl
        have H_6 := (H.below hSw).at_ (v := .int .i64 tr) 6 rfl
        have Hd_0 := (Hd.below hSw).at_ (v := .int .u32 a) 0 rfl
        have Hd_1 := (Hd.below hSw).at_ (v := .int .i64 p) 1 rfl
        have Hd_2 := (Hd.below hSw).at_ (v := .slice A8 n1 c8) 2 rfl
        have Hd_3 := (Hd.below hSw).at_ (v := .int .i64 sh) 3 rfl
        have Hd_4 := (Hd.below hSw).at_ (v := .int .i64 wo) 4 rfl
        have Hd_5 := (Hd.below hSw).at_ (v := .int .i64 qu) 5 rfl
        have Hd_6 := (Hd.below hSw).at_ (v := .int .i64 tr) 6 rfl
        have HX1 := HX.out ww hSw
        go_simp
        try with_reducible rfl
        try omega
      try simp only [Act.put, List.setIfInBounds_toArray, List.set_cons_zero, List.set_cons_succ]
      refine wpAnyH_ready (rs := [1]) (by kernel_rfl) (by simp) ?_
      refine AllReadyH.cons (o := ⟨some 71, _, _, _, _, _⟩) rfl (fun K0 hK => ?_) AllReadyH.nil
      go_simp
      refine (may_is ha (I9.below hHeld) (by omega) P1.out).mono ?_
      rintro e ww ⟨rfl, K'⟩
      refine hK.out _ _ (Below.then_ hHeld K') (fun hHeld' => ?_)
      clear hHeld K' hK K0
      have hHeld := hHeld'
      clear hHeld'
      try simp only [Act.put, List.setIfInBounds_toArray, List.set_cons_zero, List.set_cons_succ]
      refine wpAnyH_take (i := 2) (oi := ⟨some 72, _, _, _, _, _⟩) (v := .bool true) rfl (by kernel_rfl) (by kernel_rfl) (by kernel_rfl) (fun _ _ _ h => h) (Or.inl ⟨by rfl, ?_⟩) hHeld ?_
      · intro ww hSw
        try dsimp only at hSw
        go_simp
        try with_reducible rfl
        try omega
      try simp only [Act.put, List.setIfInBounds_toArray, List.set_cons_zero, List.set_cons_succ]
      refine wpAnyH_take (i := 3) (oi := ⟨some 73, _, _, _, _, _⟩) (v := ?_) rfl (by kernel_rfl) (by kernel_rfl) (by kernel_rfl) (fun _ _ _ h => h) (Or.inl ⟨by rfl, ?_⟩) hHeld ?_
      rotate_left
      · intro ww hSw
        try dsimp only at hSw
        have H_0 := (H.below hSw).at_ (v := .int .u32 a) 0 rfl
        have H_1 := (H.below hSw).at_ (v := .int .i64 p) 1 rfl
        have H_2 := (H.below hSw).at_ (v := .slice (some ⟨b, o, none⟩) c c) 2 rfl
        have H_3 := (H.below hSw).at_ (v := .int .i64 sh) 3 rfl
        have H_4 := (H.below hSw).at_ (v := .int .i64 wo) 4 rfl
        have H_5 := (H.below hSw).at_ (v := .int .i64 qu) 5 rfl
        have H_6 := (H.below hSw).at_ (v := .int .i64 tr) 6 rfl
        have Hd_0 := (Hd.below hSw).at_ (v := .int .u32 a) 0 rfl
        have Hd_1 := (Hd.below hSw).at_ (v := .int .i64 p) 1 rfl
        have Hd_2 := (Hd.below hSw).at_ (v := .slice A8 n1 c8) 2 rfl
        have Hd_3 := (Hd.below hSw).at_ (v := .int .i64 sh) 3 rfl
        have Hd_4 := (Hd.below hSw).at_ (v := .int .i64 wo) 4 rfl
        have Hd_5 := (Hd.below hSw).at_ (v := .int .i64 qu) 5 rfl
        have Hd_6 := (Hd.below hSw).at_ (v := .int .i64 tr) 6 rfl
        have HX1 := HX.out ww hSw
        go_simp
        try with_reducible rfl
        try omega
      try simp only [Act.put, List.setIfInBounds_toArray, List.set_cons_zero, List.set_cons_succ]
      refine wpAnyH_take (i := 5) (oi := ⟨some 75, _, _, _, _, _⟩) (v := ?_) rfl (by kernel_rfl) (by kernel_rfl) (by kernel_rfl) (fun _ _ _ h => h) (Or.inl ⟨by rfl, ?_⟩) hHeld ?_
      rotate_left
      · intro ww hSw
        try dsimp only at hSw
        have H_0 := (H.below hSw).at_ (v := .int .u32 a) 0 rfl
        have H_1 := (H.below hSw).at_ (v := .int .i64 p) 1 rfl
        have H_2 := (H.below hSw).at_ (v := .slice (some ⟨b, o, none⟩) c c) 2 rfl
        have H_3 := (H.below hSw).at_ (v := .int .i64 sh) 3 rfl
        have H_4 := (H.below hSw).at_ (v := .int .i64 wo) 4 rfl
        have H_5 := (H.below hSw).at_ (v := .int .i64 qu) 5 rfl
        have H_6 := (H.below hSw).at_ (v := .int .i64 tr) 6 rfl
        have Hd_0 := (Hd.below hSw).at_ (v := .int .u32 a) 0 rfl
        have Hd_1 := (Hd.below hSw).at_ (v := .int .i64 p) 1 rfl
        have Hd_2 := (Hd.below hSw).at_ (v := .slice A8 n1 c8) 2 rfl
        have Hd_3 := (Hd.below hSw).at_ (v := .int .i64 sh) 3 rfl
        have Hd_4 := (Hd.below hSw).at_ (v := .int .i64 wo) 4 rfl
        have Hd_5 := (Hd.below hSw).at_ (v := .int .i64 qu) 5 rfl
        have Hd_6 := (Hd.below hSw).at_ (v := .int .i64 tr) 6 rfl
        have HX1 := HX.out ww hSw
        go_simp
        try with_reducible rfl
        try omega
      try simp only [Act.put, List.setIfInBounds_toArray, List.set_cons_zero, List.set_cons_succ]
      refine wpAnyH_ready (rs := [4]) (by kernel_rfl) (by simp) ?_
      refine AllReadyH.cons (o := ⟨some 74, _, _, _, _, _⟩) rfl (fun K0 hK => ?_) AllReadyH.nil
      go_simp
      refine (usable_any ha hM (by omega)).mono ?_
      rintro e ww ⟨rfl, K'⟩
      refine hK.out _ _ (Below.then_ hHeld K') (fun hHeld' => ?_)
      clear hHeld K' hK K0
      have hHeld := hHeld'
      clear hHeld'
      try simp only [Act.put, List.setIfInBounds_toArray, List.set_cons_zero, List.set_cons_succ]
      refine wpAnyH_ready (rs := [6]) (by kernel_rfl) (by simp) ?_
      refine AllReadyH.cons (o := ⟨some 76, _, _, _, _, _⟩) rfl (fun K0 hK => ?_) AllReadyH.nil
      go_simp
      refine (usable_any ha hM (by omega)).mono ?_
      rintro e ww ⟨rfl, K'⟩
      refine hK.out _ _ (Below.then_ hHeld K') (fun hHeld' => ?_)
      clear hHeld K' hK K0
      have hHeld := hHeld'
      clear hHeld'
      try simp only [Act.put, List.setIfInBounds_toArray, List.set_cons_zero, List.set_cons_succ]
      refine wpAnyH_take (i := 7) (oi := ⟨some 77, _, _, _, _, _⟩) (v := .int .i64 ((k : Int) - (c : Int) + 1)) rfl (by kernel_rfl) (by kernel_rfl) (by kernel_rfl) (fun _ _ _ h => h) (Or.inl ⟨by rfl, ?_⟩) hHeld ?_
      · intro ww hSw
        try dsimp only at hSw
        go_simp
        try with_reducible rfl
        try omega
      try simp only [Act.put, List.setIfInBounds_toArray, List.set_cons_zero, List.set_cons_succ]
      refine wpAnyH_take (i := 8) (oi := ⟨some 78, _, _, _, _, _⟩) (v := .bool true) rfl (by kernel_rfl) (by kernel_rfl) (by kernel_rfl) (fun _ _ _ h => h) (Or.inl ⟨by rfl, ?_⟩) hHeld ?_
      · intro ww hSw
        try dsimp only at hSw
        go_simp
        try with_reducible rfl
        try omega
      try simp only [Act.put, List.setIfInBounds_toArray, List.set_cons_zero, List.set_cons_succ]
      refine wpAnyH_take (i := 9) (oi := ⟨some 79, _, _, _, _, _⟩) (v := .bool true) rfl (by kernel_rfl) (by kernel_rfl) (by kernel_rfl) (fun _ _ _ h => h) (Or.inl ⟨by rfl, ?_⟩) hHeld ?_
      · intro ww hSw
        try dsimp only at hSw
        go_simp
        try with_reducible rfl
        try omega
      try simp only [Act.put, List.setIfInBounds_toArray, List.set_cons_zero, List.set_cons_succ]
      refine wpAnyH_take (i := 10) (oi := ⟨some 80, _, _, _, _, _⟩) (v := .bool true) rfl (by kernel_rfl) (by kernel_rfl) (by kernel_rfl) (fun _ _ _ h => h) (Or.inl ⟨by rfl, ?_⟩) hHeld ?_
      · intro ww hSw
        try dsimp only at hSw
        go_simp
        try with_reducible rfl
        try omega
      try simp only [Act.put, List.setIfInBounds_toArray, List.set_cons_zero, List.set_cons_succ]
      refine wpAnyH_take (i := 11) (oi := ⟨some 81, _, _, _, _, _⟩) (v := ?_) rfl (by kernel_rfl) (by kernel_rfl) (by kernel_rfl) (fun _ _ _ h => h) (Or.inl ⟨by rfl, ?_⟩) hHeld ?_
      rotate_left
      · intro ww hSw
        try dsimp only at hSw
        have H_0 := (H.below hSw).at_ (v := .int .u32 a) 0 rfl
        have H_1 := (H.below hSw).at_ (v := .int .i64 p) 1 rfl
        have H_2 := (H.below hSw).at_ (v := .slice (some ⟨b, o, none⟩) c c) 2 rfl
        have H_3 := (H.below hSw).at_ (v := .int .i64 sh) 3 rfl
        have H_4 := (H.below hSw).at_ (v := .int .i64 wo) 4 rfl
        have H_5 := (H.below hSw).at_ (v := .int .i64 qu) 5 rfl
        have H_6 := (H.below hSw).at_ (v := .int .i64 tr) 6 rfl
        have Hd_0 := (Hd.below hSw).at_ (v := .int .u32 a) 0 rfl
        have Hd_1 := (Hd.below hSw).at_ (v := .int .i64 p) 1 rfl
        have Hd_2 := (Hd.below hSw).at_ (v := .slice A8 n1 c8) 2 rfl
        have Hd_3 := (Hd.below hSw).at_ (v := .int .i64 sh) 3 rfl
        have Hd_4 := (Hd.below hSw).at_ (v := .int .i64 wo) 4 rfl
        have Hd_5 := (Hd.below hSw).at_ (v := .int .i64 qu) 5 rfl
        have Hd_6 := (Hd.below hSw).at_ (v := .int .i64 tr) 6 rfl
        have HX1 := HX.out ww hSw
        go_simp
        try with_reducible rfl
        try omega
      try simp only [Act.put, List.setIfInBounds_toArray, List.set_cons_zero, List.set_cons_succ]
      refine wpAnyH_take (i := 12) (oi := ⟨some 82, _, _, _, _, _⟩) (v := ?_) rfl (by kernel_rfl) (by kernel_rfl) (by kernel_rfl) (fun _ _ _ h => h) (Or.inl ⟨by rfl, ?_⟩) hHeld ?_
      rotate_left
      · intro ww hSw
        try dsimp only at hSw
        go_simp
        try with_reducible rfl
        try omega
      try simp only [Act.put, List.setIfInBounds_toArray, List.set_cons_zero, List.set_cons_succ]
      refine wpAnyH_take (i := 13) (oi := ⟨some 83, _, _, _, _, _⟩) (v := ?_) rfl (by kernel_rfl) (by kernel_rfl) (by kernel_rfl) (fun _ _ _ h => h) (Or.inl ⟨by rfl, ?_⟩) hHeld ?_
      rotate_left
      · intro ww hSw
        try dsimp only at hSw
        have H_0 := (H.below hSw).at_ (v := .int .u32 a) 0 rfl
        have H_1 := (H.below hSw).at_ (v := .int .i64 p) 1 rfl
        have H_2 := (H.below hSw).at_ (v := .slice (some ⟨b, o, none⟩) c c) 2 rfl
        have H_3 := (H.below hSw).at_ (v := .int .i64 sh) 3 rfl
        have H_4 := (H.below hSw).at_ (v := .int .i64 wo) 4 rfl
        have H_5 := (H.below hSw).at_ (v := .int .i64 qu) 5 rfl
        have H_6 := (H.below hSw).at_ (v := .int .i64 tr) 6 rfl
        have Hd_0 := (Hd.below hSw).at_ (v := .int .u32 a) 0 rfl
        have Hd_1 := (Hd.below hSw).at_ (v := .int .i64 p) 1 rfl
        have Hd_2 := (Hd.below hSw).at_ (v := .slice A8 n1 c8) 2 rfl
        have Hd_3 := (Hd.below hSw).at_ (v := .int .i64 sh) 3 rfl
        have Hd_4 := (Hd.below hSw).at_ (v := .int .i64 wo) 4 rfl
        have Hd_5 := (Hd.below hSw).at_ (v := .int .i64 qu) 5 rfl
        have Hd_6 := (Hd.below hSw).at_ (v := .int .i64 tr) 6 rfl
        have HX1 := HX.out ww hSw
        go_simp
        try with_reducible rfl
        try omega
      try simp only [Act.put, List.setIfInBounds_toArray, List.set_cons_zero, List.set_cons_succ]
      refine wpAnyH_take (i := 14) (oi := ⟨some 84, _, _, _, _, _⟩) (v := ?_) rfl (by kernel_rfl) (by kernel_rfl) (by kernel_rfl) (fun _ _ _ h => h) (Or.inl ⟨by rfl, ?_⟩) hHeld ?_
      rotate_left
      · intro ww hSw
        try dsimp only at hSw
        go_simp
        try with_reducible rfl
        try omega
      try simp only [Act.put, List.setIfInBounds_toArray, List.set_cons_zero, List.set_cons_succ]
      refine wpAnyH_take (i := 15) (oi := ⟨some 85, _, _, _, _, _⟩) (v := ?_) rfl (by kernel_rfl) (by kernel_rfl) (by kernel_rfl) (fun _ _ _ h => h) (Or.inl ⟨by rfl, ?_⟩) hHeld ?_
      rotate_left
      · intro ww hSw
        try dsimp only at hSw
        go_simp
        try with_reducible rfl
        try omega
      try simp only [Act.put, List.setIfInBounds_toArray, List.set_cons_zero, List.set_cons_succ]
      refine wpAnyH_take (i := 16) (oi := ⟨some 86, _, _, _, _, _⟩) (v := ?_) rfl (by kernel_rfl) (by kernel_rfl) (by kernel_rfl) (fun _ _ _ h => h) (Or.inl ⟨by rfl, ?_⟩) hHeld ?_
      rotate_left
      · intro ww hSw
        try dsimp only at hSw
        have H_0 := (H.below hSw).at_ (v := .int .u32 a) 0 rfl
        have H_1 := (H.below hSw).at_ (v := .int .i64 p) 1 rfl
        have H_2 := (H.below hSw).at_ (v := .slice (some ⟨b, o, none⟩) c c) 2 rfl
        have H_3 := (H.below hSw).at_ (v := .int .i64 sh) 3 rfl
        have H_4 := (H.below hSw).at_ (v := .int .i64 wo) 4 rfl
        have H_5 := (H.below hSw).at_ (v := .int .i64 qu) 5 rfl
        have H_6 := (H.below hSw).at_ (v := .int .i64 tr) 6 rfl
        have Hd_0 := (Hd.below hSw).at_ (v := .int .u32 a) 0 rfl
        have Hd_1 := (Hd.below hSw).at_ (v := .int .i64 p) 1 rfl
        have Hd_2 := (Hd.below hSw).at_ (v := .slice A8 n1 c8) 2 rfl
        have Hd_3 := (Hd.below hSw).at_ (v := .int .i64 sh) 3 rfl
        have Hd_4 := (Hd.below hSw).at_ (v := .int .i64 wo) 4 rfl
        have Hd_5 := (Hd.below hSw).at_ (v := .int .i64 qu) 5 rfl
        have Hd_6 := (Hd.below hSw).at_ (v := .int .i64 tr) 6 rfl
        have HX1 := HX.out ww hSw
        go_simp
        try with_reducible rfl
        try omega
      try simp only [Act.put, List.setIfInBounds_toArray, List.set_cons_zero, List.set_cons_succ]
      refine wpAnyH_ready (rs := [17]) (by kernel_rfl) (by simp) ?_
      refine AllReadyH.cons (o := ⟨some 87, _, _, _, _, _⟩) rfl (fun K0 hK => ?_) AllReadyH.nil
      go_simp
      refine (held_is (I9.below hHeld) (by omega) P2.out).mono ?_
      rintro e ww ⟨rfl, K'⟩
      refine hK.out _ _ (Below.then_ hHeld K') (fun hHeld' => ?_)
      clear hHeld K' hK K0
      have hHeld := hHeld'
      clear hHeld'
      try simp only [Act.put, List.setIfInBounds_toArray, List.set_cons_zero, List.set_cons_succ]
      refine wpAnyH_take (i := 18) (oi := ⟨some 88, _, _, _, _, _⟩) (v := .bool true) rfl (by kernel_rfl) (by kernel_rfl) (by kernel_rfl) (fun _ _ _ h => h) (Or.inl ⟨by rfl, ?_⟩) hHeld ?_
      · intro ww hSw
        try dsimp only at hSw
        go_simp
        try with_reducible rfl
        try omega
      try simp only [Act.put, List.setIfInBounds_toArray, List.set_cons_zero, List.set_cons_succ]
      refine wpAnyH_take (i := 19) (oi := ⟨some 89, _, _, _, _, _⟩) (v := .bool true) rfl (by kernel_rfl) (by kernel_rfl) (by kernel_rfl) (fun _ _ _ h => h) (Or.inl ⟨by rfl, ?_⟩) hHeld ?_
      · intro ww hSw
        try dsimp only at hSw
        go_simp
        try with_reducible rfl
        try omega
      try simp only [Act.put, List.setIfInBounds_toArray, List.set_cons_zero, List.set_cons_succ]
      refine wpAnyH_take (i := 20) (oi := ⟨some 90, _, _, _, _, _⟩) (v := .bool true) rfl (by kernel_rfl) (by kernel_rfl) (by kernel_rfl) (fun _ _ _ h => h) (Or.inl ⟨by rfl, ?_⟩) hHeld ?_
      · intro ww hSw
        try dsimp only at hSw
        go_simp
        try with_reducible rfl
        try omega
      try simp only [Act.put, List.setIfInBounds_toArray, List.set_cons_zero, List.set_cons_succ]
      refine wpAnyH_take (i := 21) (oi := ⟨some 91, _, _, _, _, _⟩) (v := ?_) rfl (by kernel_rfl) (by kernel_rfl) (by kernel_rfl) (fun _ _ _ h => h) (Or.inl ⟨by rfl, ?_⟩) hHeld ?_
      rotate_left
      · intro ww hSw
        try dsimp only at hSw
        have H_0 := (H.below hSw).at_ (v := .int .u32 a) 0 rfl
        have H_1 := (H.below hSw).at_ (v := .int .i64 p) 1 rfl
        have H_2 := (H.below hSw).at_ (v := .slice (some ⟨b, o, none⟩) c c) 2 rfl
        have H_3 := (H.below hSw).at_ (v := .int .i64 sh) 3 rfl
        have H_4 := (H.below hSw).at_ (v := .int .i64 wo) 4 rfl
        have H_5 := (H.below hSw).at_ (v := .int .i64 qu) 5 rfl
        have H_6 := (H.below hSw).at_ (v := .int .i64 tr) 6 rfl
        have Hd_0 := (Hd.below hSw).at_ (v := .int .u32 a) 0 rfl
        have Hd_1 := (Hd.below hSw).at_ (v := .int .i64 p) 1 rfl
        have Hd_2 := (Hd.below hSw).at_ (v := .slice A8 n1 c8) 2 rfl
        have Hd_3 := (Hd.below hSw).at_ (v := .int .i64 sh) 3 rfl
        have Hd_4 := (Hd.below hSw).at_ (v := .int .i64 wo) 4 rfl
        have Hd_5 := (Hd.below hSw).at_ (v := .int .i64 qu) 5 rfl
        have Hd_6 := (Hd.below hSw).at_ (v := .int .i64 tr) 6 rfl
        have HX1 := HX.out ww hSw
        go_simp
        try with_reducible rfl
        try omega
      try simp only [Act.put, List.setIfInBounds_toArray, List.set_cons_zero, List.set_cons_succ]
      refine wpAnyH_take (i := 22) (oi := ⟨some 92, _, _, _, _, _⟩) (v := ?_) rfl (by kernel_rfl) (by kernel_rfl) (by kernel_rfl) (fun _ _ _ h => h) (Or.inl ⟨by rfl, ?_⟩) hHeld ?_
      rotate_left
      · intro ww hSw
        try dsimp only at hSw
        go_simp
        try with_reducible rfl
        try omega
      try simp only [Act.put, List.setIfInBounds_toArray, List.set_cons_zero, List.set_cons_succ]
      refine wpAnyH_take (i := 23) (oi := ⟨some 93, _, _, _, _, _⟩) (v := ?_) rfl (by kernel_rfl) (by kernel_rfl) (by kernel_rfl) (fun _ _ _ h => h) (Or.inl ⟨by rfl, ?_⟩) hHeld ?_
      rotate_left
      · intro ww hSw
        try dsimp only at hSw
        have H_0 := (H.below hSw).at_ (v := .int .u32 a) 0 rfl
        have H_1 := (H.below hSw).at_ (v := .int .i64 p) 1 rfl
        have H_2 := (H.below hSw).at_ (v := .slice (some ⟨b, o, none⟩) c c) 2 rfl
        have H_3 := (H.below hSw).at_ (v := .int .i64 sh) 3 rfl
        have H_4 := (H.below hSw).at_ (v := .int .i64 wo) 4 rfl
        have H_5 := (H.below hSw).at_ (v := .int .i64 qu) 5 rfl
        have H_6 := (H.below hSw).at_ (v := .int .i64 tr) 6 rfl
        have Hd_0 := (Hd.below hSw).at_ (v := .int .u32 a) 0 rfl
        have Hd_1 := (Hd.below hSw).at_ (v := .int .i64 p) 1 rfl
        have Hd_2 := (Hd.below hSw).at_ (v := .slice A8 n1 c8) 2 rfl
        have Hd_3 := (Hd.below hSw).at_ (v := .int .i64 sh) 3 rfl
        have Hd_4 := (Hd.below hSw).at_ (v := .int .i64 wo) 4 rfl
        have Hd_5 := (Hd.below hSw).at_ (v := .int .i64 qu) 5 rfl
        have Hd_6 := (Hd.below hSw).at_ (v := .int .i64 tr) 6 rfl
        have HX1 := HX.out ww hSw
        go_simp
        try with_reducible rfl
        try omega
      try simp only [Act.put, List.setIfInBounds_toArray, List.set_cons_zero, List.set_cons_succ]
      refine wpAnyH_take (i := 24) (oi := ⟨some 94, _, _, _, _, _⟩) (v := ?_) rfl (by kernel_rfl) (by kernel_rfl) (by kernel_rfl) (fun _ _ _ h => h) (Or.inl ⟨by rfl, ?_⟩) hHeld ?_
      rotate_left
      · intro ww hSw
        try dsimp only at hSw
        go_simp
        try with_reducible rfl
        try omega
      try simp only [Act.put, List.setIfInBounds_toArray, List.set_cons_zero, List.set_cons_succ]
      refine wpAnyH_take (i := 25) (oi := ⟨some 95, _, _, _, _, _⟩) (v := ?_) rfl (by kernel_rfl) (by kernel_rfl) (by kernel_rfl) (fun _ _ _ h => h) (Or.inl ⟨by rfl, ?_⟩) hHeld ?_
      rotate_left
      · intro ww hSw
        try dsimp only at hSw
        go_simp
        try with_reducible rfl
        try omega
      try simp only [Act.put, List.setIfInBounds_toArray, List.set_cons_zero, List.set_cons_succ]
      refine wpAnyH_take (i := 26) (oi := ⟨some 96, _, _, _, _, _⟩) (v := ?_) rfl (by kernel_rfl) (by kernel_rfl) (by kernel_rfl) (fun _ _ _ h => h) (Or.inl ⟨by rfl, ?_⟩) hHeld ?_
      rotate_left
      · intro ww hSw
        try dsimp only at hSw
        have H_0 := (H.below hSw).at_ (v := .int .u32 a) 0 rfl
        have H_1 := (H.below hSw).at_ (v := .int .i64 p) 1 rfl
        have H_2 := (H.below hSw).at_ (v := .slice (some ⟨b, o, none⟩) c c) 2 rfl
        have H_3 := (H.below hSw).at_ (v := .int .i64 sh) 3 rfl
        have H_4 := (H.below hSw).at_ (v := .int .i64 wo) 4 rfl
        have H_5 := (H.below hSw).at_ (v := .int .i64 qu) 5 rfl
        have H_6 := (H.below hSw).at_ (v := .int .i64 tr) 6 rfl
        have Hd_0 := (Hd.below hSw).at_ (v := .int .u32 a) 0 rfl
        have Hd_1 := (Hd.below hSw).at_ (v := .int .i64 p) 1 rfl
        have Hd_2 := (Hd.below hSw).at_ (v := .slice A8 n1 c8) 2 rfl
        have Hd_3 := (Hd.below hSw).at_ (v := .int .i64 sh) 3 rfl
        have Hd_4 := (Hd.below hSw).at_ (v := .int .i64 wo) 4 rfl
        have Hd_5 := (Hd.below hSw).at_ (v := .int .i64 qu) 5 rfl
        have Hd_6 := (Hd.below hSw).at_ (v := .int .i64 tr) 6 rfl
        have HX1 := HX.out ww hSw
        go_simp
        try with_reducible rfl
        try omega
      try simp only [Act.put, List.setIfInBounds_toArray, List.set_cons_zero, List.set_cons_succ]
      refine wpAnyH_ready (rs := [27]) (by kernel_rfl) (by simp) ?_
      refine AllReadyH.cons (o := ⟨some 97, _, _, _, _, _⟩) rfl (fun K0 hK => ?_) AllReadyH.nil
      go_simp
      refine (held_is (h.below hHeld) (by omega) P3.out).mono ?_
      rintro e ww ⟨rfl, K'⟩
      refine hK.out _ _ (Below.then_ hHeld K') (fun hHeld' => ?_)
      clear hHeld K' hK K0
      have hHeld := hHeld'
      clear hHeld'
      try simp only [Act.put, List.setIfInBounds_toArray, List.set_cons_zero, List.set_cons_succ]
      refine wpAnyH_take (i := 28) (oi := ⟨some 98, _, _, _, _, _⟩) (v := .bool true) rfl (by kernel_rfl) (by kernel_rfl) (by kernel_rfl) (fun _ _ _ h => h) (Or.inl ⟨by rfl, ?_⟩) hHeld ?_
      · intro ww hSw
        try dsimp only at hSw
        go_simp
        try with_reducible rfl
        try omega
      try simp only [Act.put, List.setIfInBounds_toArray, List.set_cons_zero, List.set_cons_succ]
      refine wpAnyH_take (i := 29) (oi := ⟨some 4, _, _, _, _, _⟩) (v := ?_) rfl (by kernel_rfl) (by kernel_rfl) (by kernel_rfl) (fun _ _ _ h => h) (Or.inl ⟨by rfl, ?_⟩) hHeld ?_
      rotate_left
      · intro ww hSw
        try dsimp only at hSw
        go_simp
        try with_reducible rfl
        try omega
      try simp only [Act.put, List.setIfInBounds_toArray, List.set_cons_zero, List.set_cons_succ]
      refine wpAnyH_done (by kernel_rfl) ?_ _
      replace K := Below.then_ K hHeld
      go_wp2
      go_ret
      exact ⟨rfl, K⟩
end
theorem walk (a p : Int) (A : Option Addr) (n c : Nat) (z : List Int) (sh wo qu tr f : Int) (w : World) (wa : (Lit.int .u32 a).wf = true) (wr : IsRow .i64 w A n c z) (wf : (Lit.int .u8 f).wf = true) :
    Calls Try.prog 6 #[.agg #[.int .u32 a, .int .i64 p, .slice A n c, .int .i64 sh, .int .i64 wo, .int .i64 qu, .int .i64 tr], .int .u8 f] w fun e w' => e = .returned (.bool true) ∧ Below w.heap.size w w' := by
  obtain ⟨a, rfl, ha⟩ := wf_u32 wa
  obtain ⟨f, rfl, hf⟩ := wf_u8 wf
  obtain ⟨xs, h, _⟩ := IS.of_row wr
  cases hb : confB a p n xs sh wo qu tr with
  | false => exact not_may ha h hb
  | true =>
    have hc := confB_no hb
    have hM := Much.of hc.1
    obtain ⟨M, eM⟩ : ∃ M, M = 2 ^ (32 - p.toNat) := ⟨_, rfl⟩
    rw [← eM] at hM
    by_cases hm : M ≤ 4096
    · have hl := h.len
      have hR := hc.2.2.1
      rw [hM.manyI] at hR
      have EN : cn xs M = n := by rw [cn_len hR (Int.le_refl _) rfl, hl]
      rcases Nat.eq_zero_or_pos n with h0 | h0
      · exact empty ha h hb hM hm EN h0
      · have lr : f % n < n := Nat.mod_lt _ h0
        obtain ⟨b, o, rfl, _, _⟩ := h.get lr
        have P1 : confB a p (n - 1) (wo_ xs (f % n)) sh wo qu tr = true := by
          have hR2 := risB_wo hR (f % n)
          rw [← hM.manyI] at hR2
          unfold confB confL someB at hb ⊢
          simp at hb ⊢
          obtain ⟨h1, h2, h3, h4, h5, h6, h7⟩ := hb
          exact ⟨h1, by omega, hR2, h4, h5, h6, h7⟩
        have P2 := has_wo hR (k := f % n) (by omega)
        have P3 := has_at (xs := xs) (k := f % n) (by omega)
        have hcap := h.cap
        by_cases hce : c = f % n + 1
        · obtain rfl : n = c := by omega
          have e1 : wo_ xs (f % n) = xs.take (f % n) ++ xs.drop n := by unfold wo_; rw [← hce]
          exact some_eq ha h hb hM hm EN hc.2.1 h0 hf rfl hce rfl e1 P1 P2 P3
        · exact some_ne ha h hb hM hm EN hc.2.1 h0 hf rfl rfl hce rfl rfl P1 P2 P3
    · exact great ha h hb hM (by omega)
end Go.Proofs.Ytecdjcepminliaa.blockHeld
