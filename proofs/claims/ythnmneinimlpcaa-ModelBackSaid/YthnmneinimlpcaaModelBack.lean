/-
  The walk of the law ModelBack: for every configuration, list and two offsets it answers true.
-/
import Derived.Test.YthnmneinimlpcaaModelDown
namespace Go.Proofs.Ythnmneinimlpcaa.modelBack
open Go.RowKit
set_option linter.unusedVariables false
section
variable {w : World} {lo lo2 a m d : Nat} {p sh wo qu tr : Int} {A B : Option Addr} {n c : Nat} {zs xs : List Int} {ys : List Nat}
set_option maxRecDepth 100000 in
set_option maxHeartbeats 2000000 in
theorem apart (ha : a < 4294967296) (h : IS .i64 lo w A n c zs) (hs : IS .i64 lo2 w B m d xs) {x y : Int} (hne : y ≠ x) :
    Calls Try.prog 6 #[.agg #[.int .u32 a, .int .i64 p, .slice A n c, .int .i64 sh, .int .i64 wo, .int .i64 qu, .int .i64 tr], .slice B m d, .int .i64 x, .int .i64 y] w (RetBo true w) := by
  have hl := hs.len
  have f0 : (y != x) = true := by simpa using hne
  replace hne := Lib.hid hne
  have K := below_alloc w (.cells #[.int .u32 a, .int .i64 p, .slice A n c, .int .i64 sh, .int .i64 wo, .int .i64 qu, .int .i64 tr] 27)
  have H := Bk.new w #[.int .u32 a, .int .i64 p, .slice A n c, .int .i64 sh, .int .i64 wo, .int .i64 qu, .int .i64 tr] 27
  replace h := h.below K
  replace hs := hs.below K
  go_enter Try.func6, Try.ntmps6
  go_upto_region 1 with (fail)
  generalize w.alloc (.cells #[.int .u32 a, .int .i64 p, .slice A n c, .int .i64 sh, .int .i64 wo, .int .i64 qu, .int .i64 tr] 27) = w1 at H K h hs ⊢
  generalize w.heap.size = g at H ⊢
  go_wp2_with fail
  refine (awake_any _).mono ?_
  rintro e w2 ⟨rfl, K'⟩
  replace H := H.below K'
  replace h := h.below K'
  replace hs := hs.below K'
  replace K := Below.then_ K K'
  clear K'
  go_wp2_with fail
  refine (rises_any hs).mono ?_
  rintro e w3 ⟨bo, rfl, hB, K'⟩
  replace H := H.below K'
  replace h := h.below K'
  replace hs := hs.below K'
  replace K := Below.then_ K K'
  clear K'
  rcases bo with _ | _
  · clear hB
    go_wp2_with fail
    refine (awake_any _).mono ?_
    rintro e w4 ⟨rfl, K'⟩
    replace H := H.below K'
    replace h := h.below K'
    replace hs := hs.below K'
    replace K := Below.then_ K K'
    clear K'
    go_wp2
    go_ret
    exact ⟨rfl, K⟩
  obtain ⟨hr, hm3⟩ := hB.1 rfl
  clear hB
  replace hr := Lib.hid hr
  have H_0 := H.at_ (v := .int .u32 a) 0 rfl
  have H_1 := H.at_ (v := .int .i64 p) 1 rfl
  have H_2 := H.at_ (v := .slice A n c) 2 rfl
  have H_3 := H.at_ (v := .int .i64 sh) 3 rfl
  have H_4 := H.at_ (v := .int .i64 wo) 4 rfl
  have H_5 := H.at_ (v := .int .i64 qu) 5 rfl
  have H_6 := H.at_ (v := .int .i64 tr) 6 rfl
  have H_z := H.lt
  go_wp2_with fail
  refine (rmay5_any ha h).mono ?_
  rintro e w5 ⟨bo, rfl, hB, K'⟩
  clear H_0 H_1 H_2 H_3 H_4 H_5 H_6 H_z
  replace H := H.below K'
  replace h := h.below K'
  replace hs := hs.below K'
  replace K := Below.then_ K K'
  clear K'
  rcases bo with _ | _
  · clear hB
    go_wp2_with fail
    refine (awake_any _).mono ?_
    rintro e w6 ⟨rfl, K'⟩
    replace H := H.below K'
    replace h := h.below K'
    replace hs := hs.below K'
    replace K := Below.then_ K K'
    clear K'
    go_wp2
    go_ret
    exact ⟨rfl, K⟩
  obtain ⟨M, hC⟩ := hB rfl
  clear hB
  have hM := hC.much
  have hn := hC.few
  have hz := Lib.hid hC.ris
  have hMm := hM.most
  have hMp := hM.pos
  go_wp2_with fail
  refine (mwith_any hs (by omega) hr.out x).mono ?_
  rintro e w7 ⟨IA, In, Ic, rfl, I, K'⟩
  replace H := H.below K'
  replace h := h.below K'
  replace hs := hs.below K'
  replace K := Below.then_ K K'
  clear K'
  have Ib : In ≤ 65000 := by have := I.len; have := len_ins (xs := xs) x; omega
  go_wp2_with fail
  refine (mwithout_any hs (by omega) hr.out x).mono ?_
  rintro e w8 ⟨JA, Jn, Jc, rfl, J, K'⟩
  replace H := H.below K'
  replace h := h.below K'
  replace hs := hs.below K'
  replace I := I.below K'
  replace K := Below.then_ K K'
  clear K'
  have Jb : Jn ≤ 65000 := by have := J.len; have := len_del xs x; omega
  have RI := Lib.hid (hr.out.ins x)
  have RD := Lib.hid (hr.out.del x)
  have T := mhas_any I (by omega) RI.out x
  rw [has_ins] at T
  replace T := Lib.hid T
  go_wp2_with fail
  refine (T.out).mono ?_
  rintro e _ ⟨rfl, rfl⟩
  clear T
  have T := mhas_any J (by omega) RD.out x
  rw [has_del] at T
  replace T := Lib.hid T
  go_wp2_with fail
  refine (T.out).mono ?_
  rintro e _ ⟨rfl, rfl⟩
  clear T
  obtain ⟨bt, hbt⟩ : ∃ b, hasB xs y = b := ⟨_, rfl⟩
  have f2 : (bt != bt) = false := by simp
  have T := mhas_any I (by omega) RI.out y
  rw [has_ins_ne hne.out, hbt] at T
  replace T := Lib.hid T
  go_wp2_with fail
  refine (T.out).mono ?_
  rintro e _ ⟨rfl, rfl⟩
  clear T
  have T := mhas_any hs (by omega) hr.out y
  rw [hbt] at T
  replace T := Lib.hid T
  go_wp2_with fail
  refine (T.out).mono ?_
  rintro e _ ⟨rfl, rfl⟩
  clear T
  have T := mhas_any J (by omega) RD.out y
  rw [has_del_ne hne.out, hbt] at T
  replace T := Lib.hid T
  go_wp2_with fail
  refine (T.out).mono ?_
  rintro e _ ⟨rfl, rfl⟩
  clear T
  have T := mhas_any hs (by omega) hr.out y
  rw [hbt] at T
  replace T := Lib.hid T
  go_wp2_with fail
  refine (T.out).mono ?_
  rintro e _ ⟨rfl, rfl⟩
  clear T
  clear hbt
  have T := mwithout_any I (by omega) RI.out x
  rw [del_ins hr.out] at T
  replace T := Lib.hid T
  go_wp2_with fail
  refine (T.out).mono ?_
  rintro e w9 ⟨LA, Ln, Lc, rfl, L, K'⟩
  replace H := H.below K'
  replace h := h.below K'
  replace hs := hs.below K'
  replace I := I.below K'
  replace J := J.below K'
  replace K := Below.then_ K K'
  clear K'
  clear T
  go_wp2_with fail
  refine (ints_same L J (by have := L.len; have := J.len; omega)).mono ?_
  rintro e w10 ⟨rfl, K'⟩
  replace H := H.below K'
  replace h := h.below K'
  replace hs := hs.below K'
  replace I := I.below K'
  replace J := J.below K'
  replace L := L.below K'
  replace K := Below.then_ K K'
  clear K'
  clear L
  have T := mwith_any J (by omega) RD.out x
  rw [ins_del hr.out] at T
  replace T := Lib.hid T
  go_wp2_with fail
  refine (T.out).mono ?_
  rintro e w11 ⟨LA, Ln, Lc, rfl, L, K'⟩
  replace H := H.below K'
  replace h := h.below K'
  replace hs := hs.below K'
  replace I := I.below K'
  replace J := J.below K'
  replace K := Below.then_ K K'
  clear K'
  clear T
  go_wp2_with fail
  refine (ints_same L I (by have := L.len; have := I.len; omega)).mono ?_
  rintro e w12 ⟨rfl, K'⟩
  replace H := H.below K'
  replace h := h.below K'
  replace hs := hs.below K'
  replace I := I.below K'
  replace J := J.below K'
  replace L := L.below K'
  replace K := Below.then_ K K'
  clear K'
  clear L
  have f3 : In = Jn + 1 := by have h1 := I.len; have h2 := J.len; have h3 := len_both hr.out x; omega
  have f4 : ((In : Int) != (Jn : Int) + 1) = false := by simp; omega
  replace f3 := Lib.hid f3
  have H_0 := H.at_ (v := .int .u32 a) 0 rfl
  have H_1 := H.at_ (v := .int .i64 p) 1 rfl
  have H_2 := H.at_ (v := .slice A n c) 2 rfl
  have H_3 := H.at_ (v := .int .i64 sh) 3 rfl
  have H_4 := H.at_ (v := .int .i64 wo) 4 rfl
  have H_5 := H.at_ (v := .int .i64 qu) 5 rfl
  have H_6 := H.at_ (v := .int .i64 tr) 6 rfl
  have H_z := H.lt
  go_wp2_with fail
  refine (rmany_yes hM).mono ?_
  rintro e w13 ⟨rfl, K'⟩
  clear H_0 H_1 H_2 H_3 H_4 H_5 H_6 H_z
  replace H := H.below K'
  replace h := h.below K'
  replace hs := hs.below K'
  replace I := I.below K'
  replace J := J.below K'
  replace K := Below.then_ K K'
  clear K'
  clear I J
  clear f4 f3 Ib Jb RI RD hr hm3
  by_cases h4 : 256 < M
  · have f2 : decide ((256 : Int) < (M : Int)) = true := by simp; omega
    go_wp2
    go_ret
    exact ⟨rfl, K⟩
  have f2 : decide ((256 : Int) < (M : Int)) = false := by simp; omega
  have H_0 := H.at_ (v := .int .u32 a) 0 rfl
  have H_1 := H.at_ (v := .int .i64 p) 1 rfl
  have H_2 := H.at_ (v := .slice A n c) 2 rfl
  have H_3 := H.at_ (v := .int .i64 sh) 3 rfl
  have H_4 := H.at_ (v := .int .i64 wo) 4 rfl
  have H_5 := H.at_ (v := .int .i64 qu) 5 rfl
  have H_6 := H.at_ (v := .int .i64 tr) 6 rfl
  have H_z := H.lt
  go_wp2_with fail
  refine (rmany_yes hM).mono ?_
  rintro e w14 ⟨rfl, K'⟩
  clear H_0 H_1 H_2 H_3 H_4 H_5 H_6 H_z
  replace H := H.below K'
  replace h := h.below K'
  replace hs := hs.below K'
  replace K := Below.then_ K K'
  clear K'
  have f5 : IntKind.i64.wrap ((M : Int) - 1) = (M : Int) - 1 := IntWalk.i64_in _ (by omega)
  go_wp2
  go_loopw [11, 12] (fun s i wr => ∃ (k q e : Nat) (C : Option Addr), k ≤ M ∧ i = .int .i64 ((k : Int) - 1) ∧ s = .slice C q e ∧ Hid (IS .i64 0 wr C q e (dn M zs k)) ∧ Below w14.heap.size w14 wr) (fun _ i _ => (intOf i + 1).toNat)
  case atStart => exact ⟨M, 0, 0, none, Nat.le_refl _, rfl, rfl, by rw [dn_none]; exact Lib.hid (IS.none_ _ _ _), Below.refl _ _⟩
  case round =>
    obtain ⟨k, q, e, C, hk, rfl, rfl, HI, Kr⟩ := hrel
    have I := HI.out
    clear HI
    have hq : q ≤ 256 := by have h1 := I.len; have h2 := dn_len (M := M) (zs := zs) (k := k); omega
    replace H := H.below Kr
    replace h := h.below Kr
    replace hs := hs.below Kr
    replace K := Below.then_ K Kr
    rcases k with _ | j
    · have e0 : ((0 : Nat) : Int) - 1 = -1 := by omega
      rw [e0]
      clear e0
      have T := mfull_any (sh := sh) (wo := wo) (qu := qu) (tr := tr) ha hM h (by omega) hz.out I dn_may
      rw [dn_full] at T
      replace T := Lib.hid T
      have H_0 := H.at_ (v := .int .u32 a) 0 rfl
      have H_1 := H.at_ (v := .int .i64 p) 1 rfl
      have H_2 := H.at_ (v := .slice A n c) 2 rfl
      have H_3 := H.at_ (v := .int .i64 sh) 3 rfl
      have H_4 := H.at_ (v := .int .i64 wo) 4 rfl
      have H_5 := H.at_ (v := .int .i64 qu) 5 rfl
      have H_6 := H.at_ (v := .int .i64 tr) 6 rfl
      have H_z := H.lt
      go_wp2_with fail
      refine (T.out).mono ?_
      rintro e w15 ⟨rfl, K'⟩
      clear H_0 H_1 H_2 H_3 H_4 H_5 H_6 H_z
      replace H := H.below K'
      replace h := h.below K'
      replace I := I.below K'
      replace K := Below.then_ K K'
      clear K'
      clear T
      have T := mmay_any (sh := sh) (wo := wo) (qu := qu) (tr := tr) ha hM h (by omega) I (by omega)
      rw [dn_may] at T
      replace T := Lib.hid T
      have H_0 := H.at_ (v := .int .u32 a) 0 rfl
      have H_1 := H.at_ (v := .int .i64 p) 1 rfl
      have H_2 := H.at_ (v := .slice A n c) 2 rfl
      have H_3 := H.at_ (v := .int .i64 sh) 3 rfl
      have H_4 := H.at_ (v := .int .i64 wo) 4 rfl
      have H_5 := H.at_ (v := .int .i64 qu) 5 rfl
      have H_6 := H.at_ (v := .int .i64 tr) 6 rfl
      have H_z := H.lt
      go_wp2_with fail
      refine (T.out).mono ?_
      rintro e w16 ⟨rfl, K'⟩
      clear H_0 H_1 H_2 H_3 H_4 H_5 H_6 H_z
      replace H := H.below K'
      replace h := h.below K'
      replace I := I.below K'
      replace K := Below.then_ K K'
      clear K'
      go_wp2
      go_ret
      exact ⟨rfl, K⟩
    · have e0 : ((j + 1 : Nat) : Int) - 1 = (j : Int) := by omega
      rw [e0]
      clear e0
      have hj : j < M := by omega
      have e1 : IntKind.i64.wrap ((j : Int) - 1) = (j : Int) - 1 := IntWalk.i64_in _ (by omega)
      cases hh : hasB zs (j : Int) with
      | true =>
        rw [dn_held hh] at I
        replace hh := Lib.hid hh
        have H_0 := H.at_ (v := .int .u32 a) 0 rfl
        have H_1 := H.at_ (v := .int .i64 p) 1 rfl
        have H_2 := H.at_ (v := .slice A n c) 2 rfl
        have H_3 := H.at_ (v := .int .i64 sh) 3 rfl
        have H_4 := H.at_ (v := .int .i64 wo) 4 rfl
        have H_5 := H.at_ (v := .int .i64 qu) 5 rfl
        have H_6 := H.at_ (v := .int .i64 tr) 6 rfl
        have H_z := H.lt
        go_wp2_with fail
        refine (rheld_is9 (a := a) (p := p) (sh := sh) (wo := wo) (qu := qu) (tr := tr) h (by omega) hh.out).mono ?_
        rintro e w17 ⟨rfl, K'⟩
        clear H_0 H_1 H_2 H_3 H_4 H_5 H_6 H_z
        replace H := H.below K'
        replace h := h.below K'
        replace I := I.below K'
        replace Kr := Below.then_ Kr K'
        replace K := Below.then_ K K'
        clear K'
        go_wp2
        go_roundw
        case rel => exact ⟨j, q, e, C, by omega, by first | rfl | (rw [e1]), rfl, Lib.hid I, Kr⟩
        case measure => simp [intOf]
      | false =>
        have E1 := Lib.hid (dn_not hj hh)
        have E2 := Lib.hid (dn_put hj hh)
        replace hh := Lib.hid hh
        have H_0 := H.at_ (v := .int .u32 a) 0 rfl
        have H_1 := H.at_ (v := .int .i64 p) 1 rfl
        have H_2 := H.at_ (v := .slice A n c) 2 rfl
        have H_3 := H.at_ (v := .int .i64 sh) 3 rfl
        have H_4 := H.at_ (v := .int .i64 wo) 4 rfl
        have H_5 := H.at_ (v := .int .i64 qu) 5 rfl
        have H_6 := H.at_ (v := .int .i64 tr) 6 rfl
        have H_z := H.lt
        go_wp2_with fail
        refine (rheld_is9 (a := a) (p := p) (sh := sh) (wo := wo) (qu := qu) (tr := tr) h (by omega) hh.out).mono ?_
        rintro e w18 ⟨rfl, K'⟩
        clear H_0 H_1 H_2 H_3 H_4 H_5 H_6 H_z
        replace H := H.below K'
        replace h := h.below K'
        replace I := I.below K'
        replace Kr := Below.then_ Kr K'
        replace K := Below.then_ K K'
        clear K'
        have T := mfull_any (sh := sh) (wo := wo) (qu := qu) (tr := tr) ha hM h (by omega) hz.out I dn_may
        rw [E1.out] at T
        replace T := Lib.hid T
        have H_0 := H.at_ (v := .int .u32 a) 0 rfl
        have H_1 := H.at_ (v := .int .i64 p) 1 rfl
        have H_2 := H.at_ (v := .slice A n c) 2 rfl
        have H_3 := H.at_ (v := .int .i64 sh) 3 rfl
        have H_4 := H.at_ (v := .int .i64 wo) 4 rfl
        have H_5 := H.at_ (v := .int .i64 qu) 5 rfl
        have H_6 := H.at_ (v := .int .i64 tr) 6 rfl
        have H_z := H.lt
        go_wp2_with fail
        refine (T.out).mono ?_
        rintro e w19 ⟨rfl, K'⟩
        clear H_0 H_1 H_2 H_3 H_4 H_5 H_6 H_z
        replace H := H.below K'
        replace h := h.below K'
        replace I := I.below K'
        replace Kr := Below.then_ Kr K'
        replace K := Below.then_ K K'
        clear K'
        clear T
        have T := mwith_any I (by omega) dn_ris (j : Int)
        rw [E2.out] at T
        replace T := Lib.hid T
        go_wp2_with fail
        refine (T.out).mono ?_
        rintro e w20 ⟨LA, Ln, Lc, rfl, L, K'⟩
        replace H := H.below K'
        replace h := h.below K'
        replace I := I.below K'
        replace Kr := Below.then_ Kr K'
        replace K := Below.then_ K K'
        clear K'
        clear T
        go_wp2
        go_roundw
        case rel => exact ⟨j, _, _, _, by omega, by first | rfl | (rw [e1]), rfl, Lib.hid L, Kr⟩
        case measure => simp [intOf]
set_option maxRecDepth 100000 in
set_option maxHeartbeats 2000000 in
theorem one (ha : a < 4294967296) (h : IS .i64 lo w A n c zs) (hs : IS .i64 lo2 w B m d xs) {x y : Int} (hne : y = x) :
    Calls Try.prog 6 #[.agg #[.int .u32 a, .int .i64 p, .slice A n c, .int .i64 sh, .int .i64 wo, .int .i64 qu, .int .i64 tr], .slice B m d, .int .i64 x, .int .i64 y] w (RetBo true w) := by
  have hl := hs.len
  have f0 : (y != x) = false := by simpa using hne
  clear hne
  have K := below_alloc w (.cells #[.int .u32 a, .int .i64 p, .slice A n c, .int .i64 sh, .int .i64 wo, .int .i64 qu, .int .i64 tr] 27)
  have H := Bk.new w #[.int .u32 a, .int .i64 p, .slice A n c, .int .i64 sh, .int .i64 wo, .int .i64 qu, .int .i64 tr] 27
  replace h := h.below K
  replace hs := hs.below K
  go_enter Try.func6, Try.ntmps6
  go_upto_region 1 with (fail)
  generalize w.alloc (.cells #[.int .u32 a, .int .i64 p, .slice A n c, .int .i64 sh, .int .i64 wo, .int .i64 qu, .int .i64 tr] 27) = w1 at H K h hs ⊢
  generalize w.heap.size = g at H ⊢
  go_wp2_with fail
  refine (awake_any _).mono ?_
  rintro e w2 ⟨rfl, K'⟩
  replace H := H.below K'
  replace h := h.below K'
  replace hs := hs.below K'
  replace K := Below.then_ K K'
  clear K'
  go_wp2_with fail
  refine (rises_any hs).mono ?_
  rintro e w3 ⟨bo, rfl, hB, K'⟩
  replace H := H.below K'
  replace h := h.below K'
  replace hs := hs.below K'
  replace K := Below.then_ K K'
  clear K'
  rcases bo with _ | _
  · clear hB
    go_wp2_with fail
    refine (awake_any _).mono ?_
    rintro e w4 ⟨rfl, K'⟩
    replace H := H.below K'
    replace h := h.below K'
    replace hs := hs.below K'
    replace K := Below.then_ K K'
    clear K'
    go_wp2
    go_ret
    exact ⟨rfl, K⟩
  obtain ⟨hr, hm3⟩ := hB.1 rfl
  clear hB
  replace hr := Lib.hid hr
  have H_0 := H.at_ (v := .int .u32 a) 0 rfl
  have H_1 := H.at_ (v := .int .i64 p) 1 rfl
  have H_2 := H.at_ (v := .slice A n c) 2 rfl
  have H_3 := H.at_ (v := .int .i64 sh) 3 rfl
  have H_4 := H.at_ (v := .int .i64 wo) 4 rfl
  have H_5 := H.at_ (v := .int .i64 qu) 5 rfl
  have H_6 := H.at_ (v := .int .i64 tr) 6 rfl
  have H_z := H.lt
  go_wp2_with fail
  refine (rmay5_any ha h).mono ?_
  rintro e w5 ⟨bo, rfl, hB, K'⟩
  clear H_0 H_1 H_2 H_3 H_4 H_5 H_6 H_z
  replace H := H.below K'
  replace h := h.below K'
  replace hs := hs.below K'
  replace K := Below.then_ K K'
  clear K'
  rcases bo with _ | _
  · clear hB
    go_wp2_with fail
    refine (awake_any _).mono ?_
    rintro e w6 ⟨rfl, K'⟩
    replace H := H.below K'
    replace h := h.below K'
    replace hs := hs.below K'
    replace K := Below.then_ K K'
    clear K'
    go_wp2
    go_ret
    exact ⟨rfl, K⟩
  obtain ⟨M, hC⟩ := hB rfl
  clear hB
  have hM := hC.much
  have hn := hC.few
  have hz := Lib.hid hC.ris
  have hMm := hM.most
  have hMp := hM.pos
  go_wp2_with fail
  refine (mwith_any hs (by omega) hr.out x).mono ?_
  rintro e w7 ⟨IA, In, Ic, rfl, I, K'⟩
  replace H := H.below K'
  replace h := h.below K'
  replace hs := hs.below K'
  replace K := Below.then_ K K'
  clear K'
  have Ib : In ≤ 65000 := by have := I.len; have := len_ins (xs := xs) x; omega
  go_wp2_with fail
  refine (mwithout_any hs (by omega) hr.out x).mono ?_
  rintro e w8 ⟨JA, Jn, Jc, rfl, J, K'⟩
  replace H := H.below K'
  replace h := h.below K'
  replace hs := hs.below K'
  replace I := I.below K'
  replace K := Below.then_ K K'
  clear K'
  have Jb : Jn ≤ 65000 := by have := J.len; have := len_del xs x; omega
  have RI := Lib.hid (hr.out.ins x)
  have RD := Lib.hid (hr.out.del x)
  have T := mhas_any I (by omega) RI.out x
  rw [has_ins] at T
  replace T := Lib.hid T
  go_wp2_with fail
  refine (T.out).mono ?_
  rintro e _ ⟨rfl, rfl⟩
  clear T
  have T := mhas_any J (by omega) RD.out x
  rw [has_del] at T
  replace T := Lib.hid T
  go_wp2_with fail
  refine (T.out).mono ?_
  rintro e _ ⟨rfl, rfl⟩
  clear T
  have T := mwithout_any I (by omega) RI.out x
  rw [del_ins hr.out] at T
  replace T := Lib.hid T
  go_wp2_with fail
  refine (T.out).mono ?_
  rintro e w9 ⟨LA, Ln, Lc, rfl, L, K'⟩
  replace H := H.below K'
  replace h := h.below K'
  replace hs := hs.below K'
  replace I := I.below K'
  replace J := J.below K'
  replace K := Below.then_ K K'
  clear K'
  clear T
  go_wp2_with fail
  refine (ints_same L J (by have := L.len; have := J.len; omega)).mono ?_
  rintro e w10 ⟨rfl, K'⟩
  replace H := H.below K'
  replace h := h.below K'
  replace hs := hs.below K'
  replace I := I.below K'
  replace J := J.below K'
  replace L := L.below K'
  replace K := Below.then_ K K'
  clear K'
  clear L
  have T := mwith_any J (by omega) RD.out x
  rw [ins_del hr.out] at T
  replace T := Lib.hid T
  go_wp2_with fail
  refine (T.out).mono ?_
  rintro e w11 ⟨LA, Ln, Lc, rfl, L, K'⟩
  replace H := H.below K'
  replace h := h.below K'
  replace hs := hs.below K'
  replace I := I.below K'
  replace J := J.below K'
  replace K := Below.then_ K K'
  clear K'
  clear T
  go_wp2_with fail
  refine (ints_same L I (by have := L.len; have := I.len; omega)).mono ?_
  rintro e w12 ⟨rfl, K'⟩
  replace H := H.below K'
  replace h := h.below K'
  replace hs := hs.below K'
  replace I := I.below K'
  replace J := J.below K'
  replace L := L.below K'
  replace K := Below.then_ K K'
  clear K'
  clear L
  have f3 : In = Jn + 1 := by have h1 := I.len; have h2 := J.len; have h3 := len_both hr.out x; omega
  have f4 : ((In : Int) != (Jn : Int) + 1) = false := by simp; omega
  replace f3 := Lib.hid f3
  have H_0 := H.at_ (v := .int .u32 a) 0 rfl
  have H_1 := H.at_ (v := .int .i64 p) 1 rfl
  have H_2 := H.at_ (v := .slice A n c) 2 rfl
  have H_3 := H.at_ (v := .int .i64 sh) 3 rfl
  have H_4 := H.at_ (v := .int .i64 wo) 4 rfl
  have H_5 := H.at_ (v := .int .i64 qu) 5 rfl
  have H_6 := H.at_ (v := .int .i64 tr) 6 rfl
  have H_z := H.lt
  go_wp2_with fail
  refine (rmany_yes hM).mono ?_
  rintro e w13 ⟨rfl, K'⟩
  clear H_0 H_1 H_2 H_3 H_4 H_5 H_6 H_z
  replace H := H.below K'
  replace h := h.below K'
  replace hs := hs.below K'
  replace I := I.below K'
  replace J := J.below K'
  replace K := Below.then_ K K'
  clear K'
  clear I J
  clear f4 f3 Ib Jb RI RD hr hm3
  by_cases h4 : 256 < M
  · have f2 : decide ((256 : Int) < (M : Int)) = true := by simp; omega
    go_wp2
    go_ret
    exact ⟨rfl, K⟩
  have f2 : decide ((256 : Int) < (M : Int)) = false := by simp; omega
  have H_0 := H.at_ (v := .int .u32 a) 0 rfl
  have H_1 := H.at_ (v := .int .i64 p) 1 rfl
  have H_2 := H.at_ (v := .slice A n c) 2 rfl
  have H_3 := H.at_ (v := .int .i64 sh) 3 rfl
  have H_4 := H.at_ (v := .int .i64 wo) 4 rfl
  have H_5 := H.at_ (v := .int .i64 qu) 5 rfl
  have H_6 := H.at_ (v := .int .i64 tr) 6 rfl
  have H_z := H.lt
  go_wp2_with fail
  refine (rmany_yes hM).mono ?_
  rintro e w14 ⟨rfl, K'⟩
  clear H_0 H_1 H_2 H_3 H_4 H_5 H_6 H_z
  replace H := H.below K'
  replace h := h.below K'
  replace hs := hs.below K'
  replace K := Below.then_ K K'
  clear K'
  have f5 : IntKind.i64.wrap ((M : Int) - 1) = (M : Int) - 1 := IntWalk.i64_in _ (by omega)
  go_wp2
  go_loopw [11, 12] (fun s i wr => ∃ (k q e : Nat) (C : Option Addr), k ≤ M ∧ i = .int .i64 ((k : Int) - 1) ∧ s = .slice C q e ∧ Hid (IS .i64 0 wr C q e (dn M zs k)) ∧ Below w14.heap.size w14 wr) (fun _ i _ => (intOf i + 1).toNat)
  case atStart => exact ⟨M, 0, 0, none, Nat.le_refl _, rfl, rfl, by rw [dn_none]; exact Lib.hid (IS.none_ _ _ _), Below.refl _ _⟩
  case round =>
    obtain ⟨k, q, e, C, hk, rfl, rfl, HI, Kr⟩ := hrel
    have I := HI.out
    clear HI
    have hq : q ≤ 256 := by have h1 := I.len; have h2 := dn_len (M := M) (zs := zs) (k := k); omega
    replace H := H.below Kr
    replace h := h.below Kr
    replace hs := hs.below Kr
    replace K := Below.then_ K Kr
    rcases k with _ | j
    · have e0 : ((0 : Nat) : Int) - 1 = -1 := by omega
      rw [e0]
      clear e0
      have T := mfull_any (sh := sh) (wo := wo) (qu := qu) (tr := tr) ha hM h (by omega) hz.out I dn_may
      rw [dn_full] at T
      replace T := Lib.hid T
      have H_0 := H.at_ (v := .int .u32 a) 0 rfl
      have H_1 := H.at_ (v := .int .i64 p) 1 rfl
      have H_2 := H.at_ (v := .slice A n c) 2 rfl
      have H_3 := H.at_ (v := .int .i64 sh) 3 rfl
      have H_4 := H.at_ (v := .int .i64 wo) 4 rfl
      have H_5 := H.at_ (v := .int .i64 qu) 5 rfl
      have H_6 := H.at_ (v := .int .i64 tr) 6 rfl
      have H_z := H.lt
      go_wp2_with fail
      refine (T.out).mono ?_
      rintro e w15 ⟨rfl, K'⟩
      clear H_0 H_1 H_2 H_3 H_4 H_5 H_6 H_z
      replace H := H.below K'
      replace h := h.below K'
      replace I := I.below K'
      replace K := Below.then_ K K'
      clear K'
      clear T
      have T := mmay_any (sh := sh) (wo := wo) (qu := qu) (tr := tr) ha hM h (by omega) I (by omega)
      rw [dn_may] at T
      replace T := Lib.hid T
      have H_0 := H.at_ (v := .int .u32 a) 0 rfl
      have H_1 := H.at_ (v := .int .i64 p) 1 rfl
      have H_2 := H.at_ (v := .slice A n c) 2 rfl
      have H_3 := H.at_ (v := .int .i64 sh) 3 rfl
      have H_4 := H.at_ (v := .int .i64 wo) 4 rfl
      have H_5 := H.at_ (v := .int .i64 qu) 5 rfl
      have H_6 := H.at_ (v := .int .i64 tr) 6 rfl
      have H_z := H.lt
      go_wp2_with fail
      refine (T.out).mono ?_
      rintro e w16 ⟨rfl, K'⟩
      clear H_0 H_1 H_2 H_3 H_4 H_5 H_6 H_z
      replace H := H.below K'
      replace h := h.below K'
      replace I := I.below K'
      replace K := Below.then_ K K'
      clear K'
      go_wp2
      go_ret
      exact ⟨rfl, K⟩
    · have e0 : ((j + 1 : Nat) : Int) - 1 = (j : Int) := by omega
      rw [e0]
      clear e0
      have hj : j < M := by omega
      have e1 : IntKind.i64.wrap ((j : Int) - 1) = (j : Int) - 1 := IntWalk.i64_in _ (by omega)
      cases hh : hasB zs (j : Int) with
      | true =>
        rw [dn_held hh] at I
        replace hh := Lib.hid hh
        have H_0 := H.at_ (v := .int .u32 a) 0 rfl
        have H_1 := H.at_ (v := .int .i64 p) 1 rfl
        have H_2 := H.at_ (v := .slice A n c) 2 rfl
        have H_3 := H.at_ (v := .int .i64 sh) 3 rfl
        have H_4 := H.at_ (v := .int .i64 wo) 4 rfl
        have H_5 := H.at_ (v := .int .i64 qu) 5 rfl
        have H_6 := H.at_ (v := .int .i64 tr) 6 rfl
        have H_z := H.lt
        go_wp2_with fail
        refine (rheld_is9 (a := a) (p := p) (sh := sh) (wo := wo) (qu := qu) (tr := tr) h (by omega) hh.out).mono ?_
        rintro e w17 ⟨rfl, K'⟩
        clear H_0 H_1 H_2 H_3 H_4 H_5 H_6 H_z
        replace H := H.below K'
        replace h := h.below K'
        replace I := I.below K'
        replace Kr := Below.then_ Kr K'
        replace K := Below.then_ K K'
        clear K'
        go_wp2
        go_roundw
        case rel => exact ⟨j, q, e, C, by omega, by first | rfl | (rw [e1]), rfl, Lib.hid I, Kr⟩
        case measure => simp [intOf]
      | false =>
        have E1 := Lib.hid (dn_not hj hh)
        have E2 := Lib.hid (dn_put hj hh)
        replace hh := Lib.hid hh
        have H_0 := H.at_ (v := .int .u32 a) 0 rfl
        have H_1 := H.at_ (v := .int .i64 p) 1 rfl
        have H_2 := H.at_ (v := .slice A n c) 2 rfl
        have H_3 := H.at_ (v := .int .i64 sh) 3 rfl
        have H_4 := H.at_ (v := .int .i64 wo) 4 rfl
        have H_5 := H.at_ (v := .int .i64 qu) 5 rfl
        have H_6 := H.at_ (v := .int .i64 tr) 6 rfl
        have H_z := H.lt
        go_wp2_with fail
        refine (rheld_is9 (a := a) (p := p) (sh := sh) (wo := wo) (qu := qu) (tr := tr) h (by omega) hh.out).mono ?_
        rintro e w18 ⟨rfl, K'⟩
        clear H_0 H_1 H_2 H_3 H_4 H_5 H_6 H_z
        replace H := H.below K'
        replace h := h.below K'
        replace I := I.below K'
        replace Kr := Below.then_ Kr K'
        replace K := Below.then_ K K'
        clear K'
        have T := mfull_any (sh := sh) (wo := wo) (qu := qu) (tr := tr) ha hM h (by omega) hz.out I dn_may
        rw [E1.out] at T
        replace T := Lib.hid T
        have H_0 := H.at_ (v := .int .u32 a) 0 rfl
        have H_1 := H.at_ (v := .int .i64 p) 1 rfl
        have H_2 := H.at_ (v := .slice A n c) 2 rfl
        have H_3 := H.at_ (v := .int .i64 sh) 3 rfl
        have H_4 := H.at_ (v := .int .i64 wo) 4 rfl
        have H_5 := H.at_ (v := .int .i64 qu) 5 rfl
        have H_6 := H.at_ (v := .int .i64 tr) 6 rfl
        have H_z := H.lt
        go_wp2_with fail
        refine (T.out).mono ?_
        rintro e w19 ⟨rfl, K'⟩
        clear H_0 H_1 H_2 H_3 H_4 H_5 H_6 H_z
        replace H := H.below K'
        replace h := h.below K'
        replace I := I.below K'
        replace Kr := Below.then_ Kr K'
        replace K := Below.then_ K K'
        clear K'
        clear T
        have T := mwith_any I (by omega) dn_ris (j : Int)
        rw [E2.out] at T
        replace T := Lib.hid T
        go_wp2_with fail
        refine (T.out).mono ?_
        rintro e w20 ⟨LA, Ln, Lc, rfl, L, K'⟩
        replace H := H.below K'
        replace h := h.below K'
        replace I := I.below K'
        replace Kr := Below.then_ Kr K'
        replace K := Below.then_ K K'
        clear K'
        clear T
        go_wp2
        go_roundw
        case rel => exact ⟨j, _, _, _, by omega, by first | rfl | (rw [e1]), rfl, Lib.hid L, Kr⟩
        case measure => simp [intOf]
end
theorem walk (a p : Int) (A : Option Addr) (n c : Nat) (z : List Int) (sh wo qu tr : Int) (B : Option Addr) (m d : Nat) (zb : List Int) (x y : Int) (w : World) (wa : (Lit.int .u32 a).wf = true) (wr : IsRow .i64 w A n c z) (wb : IsRow .i64 w B m d zb) (_ : (Lit.int .i64 x).wf = true) (_ : (Lit.int .i64 y).wf = true) :
    Calls Try.prog 6 #[.agg #[.int .u32 a, .int .i64 p, .slice A n c, .int .i64 sh, .int .i64 wo, .int .i64 qu, .int .i64 tr], .slice B m d, .int .i64 x, .int .i64 y] w fun e w' => e = .returned (.bool true) ∧ Below w.heap.size w w' := by
  obtain ⟨a, rfl, ha⟩ := wf_u32 wa
  obtain ⟨zs, h, _⟩ := IS.of_row wr
  obtain ⟨xs, hs, _⟩ := IS.of_row wb
  by_cases hne : y = x
  · exact one ha h hs hne
  · exact apart ha h hs hne
end Go.Proofs.Ythnmneinimlpcaa.modelBack
