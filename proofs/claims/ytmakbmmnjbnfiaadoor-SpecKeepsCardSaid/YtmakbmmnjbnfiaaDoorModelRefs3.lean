/-
  What the document's own Addrs and May of layer 9 answer: the same as the program's; nothing that was there is otherwise.
-/
import Derived.Test.YtmakbmmnjbnfiaaDoorModelRefs2
import Derived.Deep.RegionHeld3
namespace Go.Proofs.YtmakbmmnjbnfiaaDoor
open Go.RowKit
theorem oper_append_run {P : Program} {w : World} {o : Oper} {a : Act} {K : Act → World → Prop} {Q : Exit → Act → World → Prop} (s x : Operand) (t : TypeId)
    (ho : o.op = .call { callee := .builtin .append, args := #[s, x], argTypes := #[t, t] }) (u v v' : Value) (w' : World) (hs : a.eval s = u) (hx : a.eval x = v)
    (hrun : (Builtin.append_ #[t, t] o.type #[u, v]).run P w = .ok v' w') (h : K (a.put o.dst v') w') : Oper.wp P o a w K Q := by
  unfold Oper.wp
  simp [execOp, ho, resolve, invoke, builtin, hs, hx, hrun, Result.andThen]
  exact h
section
variable {w : World} {lo lo2 a M : Nat} {p sh wo qu tr : Int} {A B : Option Addr} {n c m d : Nat} {zs xs : List Int}
set_option maxHeartbeats 1000000 in
theorem raddrs9_any (hs : IS .i64 lo w B m d xs) (hm : m < 65536) (hx : ∀ x ∈ xs, 0 ≤ x ∧ x ≤ 65536) :
    Calls Tryd.prog 36 #[.agg #[.int .u32 a, .int .i64 p, .slice A n c, .int .i64 sh, .int .i64 wo, .int .i64 qu, .int .i64 tr], .slice B m d] w (RetI .u32 (ads a xs) w) := by
  have hl := hs.len
  replace hx := Lib.hid hx
  have K := below_alloc w (.cells #[.int .u32 a, .int .i64 p, .slice A n c, .int .i64 sh, .int .i64 wo, .int .i64 qu, .int .i64 tr] 27)
  have H := Bk.new w #[.int .u32 a, .int .i64 p, .slice A n c, .int .i64 sh, .int .i64 wo, .int .i64 qu, .int .i64 tr] 27
  replace hs := hs.below K
  go_enter Tryd.func36, Tryd.ntmps36
  go_upto_region 1 with (fail)
  generalize w.alloc (.cells #[.int .u32 a, .int .i64 p, .slice A n c, .int .i64 sh, .int .i64 wo, .int .i64 qu, .int .i64 tr] 27) = w2 at H K hs ⊢
  generalize w.heap.size = g at H ⊢
  go_wp2
  go_loopw [5, 6] (fun s i wr => ∃ (k e : Nat) (C : Option Addr), k ≤ m ∧ i = .int .i64 k ∧ s = .slice C k e ∧ Hid (Ri .u32 22 wr w2.heap.size (.slice C k e) k (ads a (xs.take k))) ∧ Below w2.heap.size w2 wr) (fun _ i _ => m - (intOf i).toNat)
  case atStart => exact ⟨0, 0, none, Nat.zero_le _, rfl, rfl, Lib.hid (Ri.nil _ _), Below.refl _ _⟩
  case round =>
    obtain ⟨k, e, C, hk, rfl, rfl, HR, Kr⟩ := hrel
    by_cases hlt : k < m
    · have hxk := hx.out _ (gi_mem (xs := xs) (j := k) (by omega))
      obtain ⟨o, ho⟩ : ∃ o : Nat, gi xs k = (o : Int) := ⟨(gi xs k).toNat, by omega⟩
      have ho2 : o ≤ 65536 := by omega
      obtain ⟨v, hv⟩ : ∃ v : Nat, v = (a + o) % 4294967296 := ⟨_, rfl⟩
      have E : ads a (xs.take (k + 1)) = ads a (xs.take k) ++ [(v : Int)] := by
        unfold ads
        rw [take_gi (by omega), List.map_append, ho, hv]
        rfl
      obtain ⟨b, oo, rfl, _, _⟩ := hs.get hlt
      obtain ⟨i0, hi, hz0, hz1, hz2⟩ := info_parts u32_info
      have Kd := (Below.refl wr.heap.size wr).drew
      obtain ⟨C2, e2, w5, hap, R5, K5⟩ := run_app1 (P := Tryd.prog) (x := (v : Int)) Tryd.underlying28 hi hz0 hz1 (by omega) (HR.out.below Kd) (by omega) (Nat.le_trans Kr.size Kd.size) 28
      have HA := Lib.hid hap
      rw [← E] at R5
      have HR2 := Lib.hid R5
      have K6 : Below w2.heap.size w2 w5 := (Kr.drew).trans K5
      have e1 : IntKind.u32.wrap ((a : Int) + (o : Int)) = (v : Int) := by rw [IntKind.wrap_u32, hv]; omega
      have e2 : IntKind.u32.wrap (o : Int) = (o : Int) := by rw [IntKind.wrap_u32]; omega
      replace ho := Lib.hid ho
      clear HR hap R5 K5 hi hz0 hz1 hz2 E hv hxk Kd
      go_upto_region 5 with (fail)
      refine wp_region_held_drew (S := fun w' => Below w2.heap.size w2 w') (by kernel_rfl) Kr.drew (fun hHeld => ?_)
      refine wpAnyH_take (i := 0) (oi := ⟨some 13, _, _, _, _, _⟩) (v := ?_) rfl (by kernel_rfl) (by kernel_rfl) (by kernel_rfl) (fun _ _ _ h => h) (Or.inl ⟨by rfl, ?_⟩) hHeld ?_
      rotate_left
      · intro ww hSw
        try dsimp only at hSw
        go_simp
        try with_reducible rfl
        try omega
      try simp only [Act.put, List.setIfInBounds_toArray, List.set_cons_zero, List.set_cons_succ]
      refine wpAnyH_take (i := 1) (oi := ⟨some 14, _, _, _, _, _⟩) (v := ?_) rfl (by kernel_rfl) (by kernel_rfl) (by kernel_rfl) (fun _ _ _ h => h) (Or.inl ⟨by rfl, ?_⟩) hHeld ?_
      rotate_left
      · intro ww hSw
        try dsimp only at hSw
        go_simp
        try with_reducible rfl
        try omega
      try simp only [Act.put, List.setIfInBounds_toArray, List.set_cons_zero, List.set_cons_succ]
      refine wpAnyH_take (i := 2) (oi := ⟨some 15, _, _, _, _, _⟩) (v := ?_) rfl (by kernel_rfl) (by kernel_rfl) (by kernel_rfl) (fun _ _ _ h => h) (Or.inl ⟨by rfl, ?_⟩) hHeld ?_
      rotate_left
      · intro ww hSw
        try dsimp only at hSw
        go_simp
        try with_reducible rfl
        try omega
      try simp only [Act.put, List.setIfInBounds_toArray, List.set_cons_zero, List.set_cons_succ]
      refine wpAnyH_take (i := 3) (oi := ⟨some 16, _, _, _, _, _⟩) (v := ?_) rfl (by kernel_rfl) (by kernel_rfl) (by kernel_rfl) (fun _ _ _ h => h) (Or.inl ⟨by rfl, ?_⟩) hHeld ?_
      rotate_left
      · intro ww hSw
        try dsimp only at hSw
        have H_0 := (H.below hSw).at_ (v := .int .u32 a) 0 rfl
        have H_1 := (H.below hSw).at_ (v := .int .i64 p) 1 rfl
        have H_2 := (H.below hSw).at_ (v := .slice A n c) 2 rfl
        have H_3 := (H.below hSw).at_ (v := .int .i64 sh) 3 rfl
        have H_4 := (H.below hSw).at_ (v := .int .i64 wo) 4 rfl
        have H_5 := (H.below hSw).at_ (v := .int .i64 qu) 5 rfl
        have H_6 := (H.below hSw).at_ (v := .int .i64 tr) 6 rfl
        have hc := (hs.below hSw).here hlt
        rw [ho.out] at hc
        go_simp
        try with_reducible rfl
        try omega
      try simp only [Act.put, List.setIfInBounds_toArray, List.set_cons_zero, List.set_cons_succ]
      refine wpAnyH_take (i := 4) (oi := ⟨some 17, _, _, _, _, _⟩) (v := ?_) rfl (by kernel_rfl) (by kernel_rfl) (by kernel_rfl) (fun _ _ _ h => h) (Or.inl ⟨by rfl, ?_⟩) hHeld ?_
      rotate_left
      · intro ww hSw
        try dsimp only at hSw
        go_simp
        try with_reducible rfl
        try omega
      try simp only [Act.put, List.setIfInBounds_toArray, List.set_cons_zero, List.set_cons_succ]
      refine wpAnyH_take (i := 5) (oi := ⟨some 18, _, _, _, _, _⟩) (v := ?_) rfl (by kernel_rfl) (by kernel_rfl) (by kernel_rfl) (fun _ _ _ h => h) (Or.inl ⟨by rfl, ?_⟩) hHeld ?_
      rotate_left
      · intro ww hSw
        try dsimp only at hSw
        go_simp
        try with_reducible rfl
        try omega
      try simp only [Act.put, List.setIfInBounds_toArray, List.set_cons_zero, List.set_cons_succ]
      refine wpAnyH_take (i := 6) (oi := ⟨some 19, _, _, _, _, _⟩) (v := ?_) rfl (by kernel_rfl) (by kernel_rfl) (by kernel_rfl) (fun _ _ _ h => h) (Or.inl ⟨by rfl, ?_⟩) hHeld ?_
      rotate_left
      · intro ww hSw
        try dsimp only at hSw
        go_simp
        try with_reducible rfl
        try omega
      try simp only [Act.put, List.setIfInBounds_toArray, List.set_cons_zero, List.set_cons_succ]
      refine wpAnyH_take (i := 7) (oi := ⟨some 20, _, _, _, _, _⟩) (v := ?_) rfl (by kernel_rfl) (by kernel_rfl) (by kernel_rfl) (fun _ _ _ h => h) (Or.inl ⟨by rfl, ?_⟩) hHeld ?_
      rotate_left
      · intro ww hSw
        try dsimp only at hSw
        have H_0 := (H.below hSw).at_ (v := .int .u32 a) 0 rfl
        have H_1 := (H.below hSw).at_ (v := .int .i64 p) 1 rfl
        have H_2 := (H.below hSw).at_ (v := .slice A n c) 2 rfl
        have H_3 := (H.below hSw).at_ (v := .int .i64 sh) 3 rfl
        have H_4 := (H.below hSw).at_ (v := .int .i64 wo) 4 rfl
        have H_5 := (H.below hSw).at_ (v := .int .i64 qu) 5 rfl
        have H_6 := (H.below hSw).at_ (v := .int .i64 tr) 6 rfl
        have hc := (hs.below hSw).here hlt
        rw [ho.out] at hc
        go_simp
        try with_reducible rfl
        try omega
      try simp only [Act.put, List.setIfInBounds_toArray, List.set_cons_zero, List.set_cons_succ]
      refine wpAnyH_take (i := 8) (oi := ⟨some 21, _, _, _, _, _⟩) (v := .int .u32 (o : Int)) rfl (by kernel_rfl) (by kernel_rfl) (by kernel_rfl) (fun _ _ _ h => h) (Or.inl ⟨by rfl, ?_⟩) hHeld ?_
      · intro ww hSw
        try dsimp only at hSw
        go_simp
        try with_reducible rfl
        try omega
      try simp only [Act.put, List.setIfInBounds_toArray, List.set_cons_zero, List.set_cons_succ]
      refine wpAnyH_take (i := 9) (oi := ⟨some 22, _, _, _, _, _⟩) (v := .int .u32 (v : Int)) rfl (by kernel_rfl) (by kernel_rfl) (by kernel_rfl) (fun _ _ _ h => h) (Or.inl ⟨by rfl, ?_⟩) hHeld ?_
      · intro ww hSw
        try dsimp only at hSw
        go_simp
        try with_reducible rfl
        try omega
      try simp only [Act.put, List.setIfInBounds_toArray, List.set_cons_zero, List.set_cons_succ]
      refine wpAnyH_ready (rs := [10]) (by kernel_rfl) (by simp) ?_
      refine AllReadyH.cons (o := ⟨some 23, _, _, _, _, _⟩) rfl (fun K0 hK => ?_) AllReadyH.nil
      go_simp
      refine hK.out _ _ (Below.then_ hHeld (below_alloc _ _)) (fun hHeld' => ?_)
      clear hHeld hK K0
      have hHeld := hHeld'
      clear hHeld'
      try simp only [Act.put, List.setIfInBounds_toArray, List.set_cons_zero, List.set_cons_succ]
      refine wpAnyH_ready (rs := [11]) (by kernel_rfl) (by simp) ?_
      refine AllReadyH.cons (o := ⟨some 24, _, _, _, _, _⟩) rfl (fun K0 hK => ?_) AllReadyH.nil
      rw [if_pos (by rfl)]
      refine oper_append_run (.tmp 13) (.tmp 23) 28 rfl _ _ _ _ rfl rfl HA.out ?_
      refine hK.out _ _ K6 (fun hHeld' => ?_)
      clear hHeld hK K0
      have hHeld := hHeld'
      clear hHeld'
      try simp only [Act.put, List.setIfInBounds_toArray, List.set_cons_zero, List.set_cons_succ]
      refine wpAnyH_take (i := 12) (oi := ⟨some 5, _, _, _, _, _⟩) (v := ?_) rfl (by kernel_rfl) (by kernel_rfl) (by kernel_rfl) (fun _ _ _ h => h) (Or.inl ⟨by rfl, ?_⟩) hHeld ?_
      rotate_left
      · intro ww hSw
        try dsimp only at hSw
        go_simp
        try with_reducible rfl
        try omega
      try simp only [Act.put, List.setIfInBounds_toArray, List.set_cons_zero, List.set_cons_succ]
      refine wpAnyH_done (by kernel_rfl) ?_ _
      clear hHeld HA
      go_wp2
      go_roundw
      case rel => exact ⟨k + 1, _, C2, by omega, by go_num, rfl, HR2, K6⟩
      case measure => simp [intOf]; omega
    · obtain rfl : k = m := by omega
      have R := HR.out
      rw [List.take_of_length_le (by omega)] at R
      have I := Lib.hid ((R.is).lower (Nat.zero_le _))
      replace K := Below.then_ K Kr
      clear HR R
      go_wp2
      go_ret
      exact ⟨_, _, _, rfl, I.out, K⟩
end
end Go.Proofs.YtmakbmmnjbnfiaaDoor

