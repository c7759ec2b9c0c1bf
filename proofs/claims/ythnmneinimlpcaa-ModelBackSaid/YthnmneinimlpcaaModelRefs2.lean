/-
  What the document's own Of, Full, Addrs and May answer of a configuration that may be: the same as the program's; nothing that was there is otherwise.
-/
import Derived.Test.YthnmneinimlpcaaModelRefs
namespace Go.Proofs.Ythnmneinimlpcaa
open Go.RowKit
section
variable {w : World} {lo lo2 a M : Nat} {p sh wo qu tr : Int} {A B : Option Addr} {n c m d : Nat} {zs xs : List Int} {ys : List Nat}
set_option maxHeartbeats 1000000 in
theorem rof_any (hM : Much a p M) (h : IS .i64 lo w A n c zs) (hn : n ≤ 65536) (hU : US w B m d ys) (hm : lv M ≤ m) (_hm2 : m ≤ 65536) :
    Calls Try.prog 23 #[.agg #[.int .u32 a, .int .i64 p, .slice A n c, .int .i64 sh, .int .i64 wo, .int .i64 qu, .int .i64 tr], .slice B m d] w (RetI .i64 (os (uf zs ys) M) w) := by
  have hMm := hM.most
  have h4 : M ≤ 32 * m := by have : M ≤ 32 * lv M := by unfold lv; omega
                             omega
  clear hm
  have K := below_alloc w (.cells #[.int .u32 a, .int .i64 p, .slice A n c, .int .i64 sh, .int .i64 wo, .int .i64 qu, .int .i64 tr] 27)
  have H := Bk.new w #[.int .u32 a, .int .i64 p, .slice A n c, .int .i64 sh, .int .i64 wo, .int .i64 qu, .int .i64 tr] 27
  replace h := h.below K
  replace hU := hU.below K
  go_enter Try.func23, Try.ntmps23
  go_upto_region 1 with (fail)
  generalize w.alloc (.cells #[.int .u32 a, .int .i64 p, .slice A n c, .int .i64 sh, .int .i64 wo, .int .i64 qu, .int .i64 tr] 27) = w2 at H K h hU ⊢
  generalize w.heap.size = g at H ⊢
  go_wp2
  go_loopw [5, 6] (fun s i wr => ∃ (k q e : Nat) (C : Option Addr), k ≤ M ∧ i = .int .i64 k ∧ s = .slice C q e ∧ Hid (Ri .i64 3 wr w2.heap.size (.slice C q e) q (os (uf zs ys) k)) ∧ Below w2.heap.size w2 wr) (fun _ i _ => M - (intOf i).toNat)
  case atStart => exact ⟨0, 0, 0, none, Nat.zero_le _, rfl, rfl, Lib.hid (Ri.nil _ _), Below.refl _ _⟩
  case round =>
    obtain ⟨k, q, e, C, hk, rfl, rfl, HR, Kr⟩ := hrel
    replace H := H.below Kr
    replace h := h.below Kr
    replace K := Below.then_ K Kr
    replace HR := HR.out
    have H_0 := H.at_ (v := .int .u32 a) 0 rfl
    have H_1 := H.at_ (v := .int .i64 p) 1 rfl
    have H_z := H.lt
    go_wp2_with fail
    refine (rmany_yes hM).mono ?_
    rintro e w3 ⟨rfl, K'⟩
    clear H_0 H_1 H_z
    replace HR := HR.below K'
    replace H := H.below K'
    replace h := h.below K'
    replace K := Below.then_ K K'
    replace Kr := Below.then_ Kr K'
    clear K'
    by_cases hlt : k < M
    · have hql := HR.len
      have hq := len_os (uf zs ys) k
      rw [hql] at hq
      obtain ⟨l, hl⟩ : ∃ l : Nat, (k : Int) / 32 = l := ⟨k / 32, by omega⟩
      obtain ⟨r, hr⟩ : ∃ r : Nat, (k : Int) % 32 = r := ⟨k % 32, by omega⟩
      have hl2 : l = k / 32 := by omega
      have hr2 : r = k % 32 := by omega
      have hr3 : r < 64 := by omega
      have huf := Lib.hid (show uf zs ys k = ((gt ys l).testBit r && !hasB zs (k : Int)) by unfold uf; rw [← hl2, ← hr2])
      obtain ⟨bb, oo, rfl, _, hc⟩ := (hU.below Kr).get (j := l) (by omega)
      have T1 := fun w => Lib.hid (rhas_any (gt ys l) r (gt_lt hU.fit l) hr3 w)
      have T2 := Lib.hid (rheld_any (a := a) (p := p) (sh := sh) (wo := wo) (qu := qu) (tr := tr) h hn (k : Int))
      clear hl2 hr2 hql
      generalize gt ys l = X at *
      have hv := huf.out
      clear huf
      cases h1 : X.testBit r with
      | false =>
        rw [h1, Bool.false_and] at hv
        rw [h1] at T1
        have HR2 := HR
        rw [← os_no hv] at HR2
        replace HR2 := Lib.hid HR2
        clear h1 hv HR T2
        go_wp2_with ((with_reducible refine ((T1 _).out).mono ?_); rintro e w' ⟨rfl, rfl⟩)
        go_roundw
        case rel => exact ⟨k + 1, q, _, C, by omega, by go_num, rfl, HR2, Kr⟩
        case measure => simp [intOf]; omega
      | true =>
        rw [h1] at T1
        have H_0 := H.at_ (v := .int .u32 a) 0 rfl
        have H_1 := H.at_ (v := .int .i64 p) 1 rfl
        have H_2 := H.at_ (v := .slice A n c) 2 rfl
        have H_3 := H.at_ (v := .int .i64 sh) 3 rfl
        have H_4 := H.at_ (v := .int .i64 wo) 4 rfl
        have H_5 := H.at_ (v := .int .i64 qu) 5 rfl
        have H_6 := H.at_ (v := .int .i64 tr) 6 rfl
        have H_z := H.lt
        cases h2 : hasB zs (k : Int) with
        | true =>
          rw [h1, h2] at hv
          rw [h2] at T2
          have HR2 := HR
          rw [← os_no (by rw [hv]; rfl)] at HR2
          clear h1 h2 hv HR
          go_wp2_with ((with_reducible refine ((T1 _).out).mono ?_); rintro e w' ⟨rfl, rfl⟩)
          refine (T2.out).mono ?_
          rintro e w4 ⟨rfl, K'⟩
          clear H_0 H_1 H_2 H_3 H_4 H_5 H_6 H_z
          replace HR2 := Lib.hid (HR2.below K')
          replace Kr := Below.then_ Kr K'
          clear K' T2 T1
          go_wp2
          go_roundw
          case rel => exact ⟨k + 1, q, _, C, by omega, by go_num, rfl, HR2, Kr⟩
          case measure => simp [intOf]; omega
        | false =>
          rw [h1, h2] at hv
          rw [h2] at T2
          have hos := Lib.hid (os_yes (f := uf zs ys) (k := k) (by rw [hv]; rfl))
          clear h1 h2 hv
          go_wp2_with ((with_reducible refine ((T1 _).out).mono ?_); rintro e w' ⟨rfl, rfl⟩)
          refine (T2.out).mono ?_
          rintro e w4 ⟨rfl, K'⟩
          clear H_0 H_1 H_2 H_3 H_4 H_5 H_6 H_z
          replace HR := HR.below K'
          replace Kr := Below.then_ Kr K'
          clear K' T2 T1
          obtain ⟨i0, hi, hz0, hz1, hz2⟩ := info_parts int_info
          obtain ⟨C2, e2, w5, hap, R5, K5⟩ := run_app1 (P := Try.prog) (x := (k : Int)) Try.underlying25 hi hz0 hz1 (by omega) HR (by omega) Kr.size 25
          have HA := Lib.hid hap
          rw [← hos.out] at R5
          have HR2 := Lib.hid R5
          have K6 := Kr.trans K5
          clear HR hap R5 K5 hi hz0 hz1 hz2 hos
          go_wp2_with (at_builtin; refine wpList_append_run rfl (.tmp 28) (.tmp 30) 25 rfl _ _ _ _ rfl rfl HA.out ?_)
          go_roundw
          case rel => exact ⟨k + 1, q + 1, e2, C2, by omega, by go_num, rfl, HR2, K6⟩
          case measure => simp [intOf]; omega
    · obtain rfl : k = M := by omega
      have I := Lib.hid ((HR.is).lower (Nat.zero_le _))
      clear HR
      go_wp2
      go_ret
      exact ⟨_, _, _, rfl, I.out, K⟩
set_option maxHeartbeats 1000000 in
theorem rfull_any (hM : Much a p M) (h : IS .i64 lo w A n c zs) (hn : n ≤ 65536) (hs : IS .i64 lo2 w B m d xs) (hm : m ≤ 65536) :
    Calls Try.prog 26 #[.agg #[.int .u32 a, .int .i64 p, .slice A n c, .int .i64 sh, .int .i64 wo, .int .i64 qu, .int .i64 tr], .slice B m d] w (RetBo (fullB M zs xs) w) := by
  have hMm := hM.most
  have K := below_alloc w (.cells #[.int .u32 a, .int .i64 p, .slice A n c, .int .i64 sh, .int .i64 wo, .int .i64 qu, .int .i64 tr] 27)
  have H := Bk.new w #[.int .u32 a, .int .i64 p, .slice A n c, .int .i64 sh, .int .i64 wo, .int .i64 qu, .int .i64 tr] 27
  replace h := h.below K
  replace hs := hs.below K
  go_enter Try.func26, Try.ntmps26
  go_upto_region 1 with (fail)
  generalize w.alloc (.cells #[.int .u32 a, .int .i64 p, .slice A n c, .int .i64 sh, .int .i64 wo, .int .i64 qu, .int .i64 tr] 27) = w2 at H K h hs ⊢
  generalize w.heap.size = g at H ⊢
  go_wp2
  go_loopw [5] (fun i wr => ∃ k : Nat, k ≤ M ∧ i = .int .i64 k ∧ Hid (∀ i : Nat, i < k → hasB zs i = true ∨ hasB xs i = true) ∧ Below w2.heap.size w2 wr) (fun i _ => M - (intOf i).toNat)
  case atStart => exact ⟨0, Nat.zero_le _, rfl, fun i hi => by omega, Below.refl _ _⟩
  case round =>
    obtain ⟨k, hk, rfl, HH, Kr⟩ := hrel
    replace H := H.below Kr
    replace h := h.below Kr
    replace hs := hs.below Kr
    replace K := Below.then_ K Kr
    have H_0 := H.at_ (v := .int .u32 a) 0 rfl
    have H_1 := H.at_ (v := .int .i64 p) 1 rfl
    have H_z := H.lt
    go_wp2_with fail
    refine (rmany_yes hM).mono ?_
    rintro e w3 ⟨rfl, K'⟩
    clear H_0 H_1 H_z
    replace H := H.below K'
    replace h := h.below K'
    replace hs := hs.below K'
    replace K := Below.then_ K K'
    replace Kr := Below.then_ Kr K'
    clear K'
    by_cases hlt : k < M
    · have T2 := Lib.hid (rheld_any (a := a) (p := p) (sh := sh) (wo := wo) (qu := qu) (tr := tr) h hn (k : Int))
      have H_0 := H.at_ (v := .int .u32 a) 0 rfl
      have H_1 := H.at_ (v := .int .i64 p) 1 rfl
      have H_2 := H.at_ (v := .slice A n c) 2 rfl
      have H_3 := H.at_ (v := .int .i64 sh) 3 rfl
      have H_4 := H.at_ (v := .int .i64 wo) 4 rfl
      have H_5 := H.at_ (v := .int .i64 qu) 5 rfl
      have H_6 := H.at_ (v := .int .i64 tr) 6 rfl
      have H_z := H.lt
      cases h1 : hasB zs (k : Int) with
      | true =>
        rw [h1] at T2
        have H2 : Hid (∀ i : Nat, i < k + 1 → hasB zs i = true ∨ hasB xs i = true) := fun i hi => by
          rcases Nat.lt_or_ge i k with g | g
          · exact HH.out i g
          · obtain rfl : i = k := by omega
            exact .inl h1
        clear h1 HH
        go_wp2_with fail
        refine (T2.out).mono ?_
        rintro e w4 ⟨rfl, K'⟩
        clear H_0 H_1 H_2 H_3 H_4 H_5 H_6 H_z
        replace Kr := Below.then_ Kr K'
        clear K' T2
        go_wp2
        go_roundw
        case rel => exact ⟨k + 1, by omega, by go_num, H2, Kr⟩
        case measure => simp [intOf]; omega
      | false =>
        rw [h1] at T2
        go_wp2_with fail
        refine (T2.out).mono ?_
        rintro e w4 ⟨rfl, K'⟩
        clear H_0 H_1 H_2 H_3 H_4 H_5 H_6 H_z
        replace Kr := Below.then_ Kr K'
        replace K := Below.then_ K K'
        have T3 := Lib.hid (rhas9_any (hs.below K') hm (k : Int))
        clear K' T2
        cases h2 : hasB xs (k : Int) with
        | true =>
          rw [h2] at T3
          have H2 : Hid (∀ i : Nat, i < k + 1 → hasB zs i = true ∨ hasB xs i = true) := fun i hi => by
            rcases Nat.lt_or_ge i k with g | g
            · exact HH.out i g
            · obtain rfl : i = k := by omega
              exact .inr h2
          clear h1 h2 HH
          go_wp2_with fail
          refine (T3.out).mono ?_
          rintro e w5 ⟨rfl, rfl⟩
          clear T3
          go_wp2
          go_roundw
          case rel => exact ⟨k + 1, by omega, by go_num, H2, Kr⟩
          case measure => simp [intOf]; omega
        | false =>
          rw [h2] at T3
          have N : Hid (fullB M zs xs = false) := by
            rw [Hid, Bool.eq_false_iff]
            intro g
            have := fullB_iff.1 g k hlt
            rw [h1, h2] at this
            rcases this with e | e <;> cases e
          clear h1 h2 HH
          go_wp2_with fail
          refine (T3.out).mono ?_
          rintro e w5 ⟨rfl, rfl⟩
          clear T3
          go_wp2
          go_ret
          exact ⟨ret_bool N.out.symm, K⟩
    · have N : Hid (fullB M zs xs = true) := fullB_iff.2 fun i hi => HH.out i (by omega)
      clear HH
      go_wp2
      go_ret
      exact ⟨ret_bool N.out.symm, K⟩
end
end Go.Proofs.Ythnmneinimlpcaa
