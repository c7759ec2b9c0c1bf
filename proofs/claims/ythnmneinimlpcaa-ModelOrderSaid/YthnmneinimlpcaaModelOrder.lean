/-
  The walk of the law ModelOrder: for every configuration, list, offsets and turn it answers true.
-/
import Derived.Test.YthnmneinimlpcaaModelMany
namespace Go.Proofs.Ythnmneinimlpcaa.modelOrder
open Go.RowKit
set_option linter.unusedVariables false
/-- An offset of the list, of a block of M addresses. -/
def fo (vs : List Int) (M : Nat) (j : Nat) : Int := gi vs j % (M : Int)
section
variable {w : World} {lo lo2 a m d L dL t : Nat} {p sh wo qu tr : Int} {A B BL : Option Addr} {n c : Nat} {zs xs vs : List Int} {ys : List Nat}
set_option maxRecDepth 100000 in
set_option maxHeartbeats 8000000 in
theorem main (ha : a < 4294967296) (h : IS .i64 lo w A n c zs) (hs : IS .i64 lo2 w B m d xs) (hO : IS .u16 lo w BL L dL vs) (hvs : ∀ v ∈ vs, (Lit.int .u16 v).wf = true) (ht : t < 256) :
    Calls Try.prog 8 #[.agg #[.int .u32 a, .int .i64 p, .slice A n c, .int .i64 sh, .int .i64 wo, .int .i64 qu, .int .i64 tr], .slice B m d, .slice BL L dL, .int .u8 t] w (RetBo true w) := by
  have hl := hs.len
  have hL := hO.len
  have hvs2 := Lib.hid (show ∀ j, j < L → ∃ v : Nat, gi vs j = (v : Int) ∧ v < 65536 from fun j hj => by
    have h1 := hvs _ (gi_mem (xs := vs) (j := j) (by omega))
    have h2 : 0 ≤ gi vs j ∧ gi vs j ≤ 65535 := by simpa [Lit.wf, IntKind.min, IntKind.max, IntKind.bits, IntKind.signed] using h1
    exact ⟨(gi vs j).toNat, by omega, by omega⟩)
  clear hvs
  have K := below_alloc w (.cells #[.int .u32 a, .int .i64 p, .slice A n c, .int .i64 sh, .int .i64 wo, .int .i64 qu, .int .i64 tr] 27)
  have H := Bk.new w #[.int .u32 a, .int .i64 p, .slice A n c, .int .i64 sh, .int .i64 wo, .int .i64 qu, .int .i64 tr] 27
  replace h := h.below K
  replace hs := hs.below K
  replace hO := hO.below K
  go_enter Try.func8, Try.ntmps8
  go_upto_region 1 with (fail)
  generalize w.alloc (.cells #[.int .u32 a, .int .i64 p, .slice A n c, .int .i64 sh, .int .i64 wo, .int .i64 qu, .int .i64 tr] 27) = w1 at H K h hs hO ⊢
  generalize w.heap.size = g at H ⊢
  go_wp2_with fail
  refine (awake_any _).mono ?_
  rintro e w2 ⟨rfl, K'⟩
  replace H := H.below K'
  replace h := h.below K'
  replace hs := hs.below K'
  replace hO := hO.below K'
  replace K := Below.then_ K K'
  clear K'
  have H_0 := H.at_ (v := .int .u32 a) 0 rfl
  have H_1 := H.at_ (v := .int .i64 p) 1 rfl
  have H_2 := H.at_ (v := .slice A n c) 2 rfl
  have H_3 := H.at_ (v := .int .i64 sh) 3 rfl
  have H_4 := H.at_ (v := .int .i64 wo) 4 rfl
  have H_5 := H.at_ (v := .int .i64 qu) 5 rfl
  have H_6 := H.at_ (v := .int .i64 tr) 6 rfl
  have H_z := H.lt
  go_wp2_with fail
  refine (rmay5_any ha h).mono ?_
  rintro e w3 ⟨bo, rfl, hB, K'⟩
  clear H_0 H_1 H_2 H_3 H_4 H_5 H_6 H_z
  replace H := H.below K'
  replace h := h.below K'
  replace hs := hs.below K'
  replace hO := hO.below K'
  replace K := Below.then_ K K'
  clear K'
  rcases bo with _ | _
  · clear hB
    go_wp2_with fail
    refine (awake_any _).mono ?_
    rintro e w4 ⟨rfl, K'⟩
    replace H := H.below K'
    replace h := h.below K'
    replace hs := hs.below K'
    replace hO := hO.below K'
    replace K := Below.then_ K K'
    clear K'
    go_wp2
    go_ret
    exact ⟨rfl, K⟩
  obtain ⟨M, hC⟩ := hB rfl
  clear hB
  have hM := hC.much
  have hn := hC.few
  have hMm := hM.most
  have hMp := hM.pos
  by_cases hm : 300 < m
  · have f1 : decide ((300 : Int) < (m : Int)) = true := by simp; omega
    go_wp2_with fail
    refine (awake_any _).mono ?_
    rintro e w5 ⟨rfl, K'⟩
    replace H := H.below K'
    replace h := h.below K'
    replace hs := hs.below K'
    replace hO := hO.below K'
    replace K := Below.then_ K K'
    clear K'
    go_wp2
    go_ret
    exact ⟨rfl, K⟩
  have f1 : decide ((300 : Int) < (m : Int)) = false := by simp; omega
  obtain ⟨bm, hbm⟩ : ∃ bm, mayR M zs 0 xs = bm := ⟨_, rfl⟩
  have T := rmay9_any (sh := sh) (wo := wo) (qu := qu) (tr := tr) hM h (by omega) hs (by omega)
  rw [hbm] at T
  replace T := Lib.hid T
  have H_0 := H.at_ (v := .int .u32 a) 0 rfl
  have H_1 := H.at_ (v := .int .i64 p) 1 rfl
  have H_2 := H.at_ (v := .slice A n c) 2 rfl
  have H_3 := H.at_ (v := .int .i64 sh) 3 rfl
  have H_4 := H.at_ (v := .int .i64 wo) 4 rfl
  have H_5 := H.at_ (v := .int .i64 qu) 5 rfl
  have H_6 := H.at_ (v := .int .i64 tr) 6 rfl
  have H_z := H.lt
  go_wp2_with fail
  refine (T.out).mono ?_
  rintro e w6 ⟨rfl, K'⟩
  clear H_0 H_1 H_2 H_3 H_4 H_5 H_6 H_z
  replace H := H.below K'
  replace h := h.below K'
  replace hs := hs.below K'
  replace hO := hO.below K'
  replace K := Below.then_ K K'
  clear K'
  clear T
  rcases bm with _ | _
  · clear hbm
    go_wp2_with fail
    refine (awake_any _).mono ?_
    rintro e w7 ⟨rfl, K'⟩
    replace H := H.below K'
    replace h := h.below K'
    replace hs := hs.below K'
    replace hO := hO.below K'
    replace K := Below.then_ K K'
    clear K'
    go_wp2
    go_ret
    exact ⟨rfl, K⟩
  have hr := Lib.hid (mayR_iff.1 hbm).1
  have hx := Lib.hid (show ∀ x ∈ xs, 0 ≤ x ∧ x ≤ 65536 from fun x hx => by have := (mayR_iff.1 hbm).2 x hx; omega)
  have hrise := Lib.hid (show ∀ j, j + 1 < m → gi (ads a xs) j < gi (ads a xs) (j + 1) from fun j hj => ads_rise ha hM hbm (by omega))
  clear hbm
  by_cases hm4 : 40 < L
  · have f2 : decide ((40 : Int) < (L : Int)) = true := by simp; omega
    go_wp2_with fail
    refine (awake_any _).mono ?_
    rintro e w8 ⟨rfl, K'⟩
    replace H := H.below K'
    replace h := h.below K'
    replace hs := hs.below K'
    replace hO := hO.below K'
    replace K := Below.then_ K K'
    clear K'
    go_wp2
    go_ret
    exact ⟨rfl, K⟩
  have f2 : decide ((40 : Int) < (L : Int)) = false := by simp; omega
  have H_0 := H.at_ (v := .int .u32 a) 0 rfl
  have H_1 := H.at_ (v := .int .i64 p) 1 rfl
  have H_2 := H.at_ (v := .slice A n c) 2 rfl
  have H_3 := H.at_ (v := .int .i64 sh) 3 rfl
  have H_4 := H.at_ (v := .int .i64 wo) 4 rfl
  have H_5 := H.at_ (v := .int .i64 qu) 5 rfl
  have H_6 := H.at_ (v := .int .i64 tr) 6 rfl
  have H_z := H.lt
  go_wp2_with fail
  refine (rmany_yes hM).mono ?_
  rintro e w9 ⟨rfl, K'⟩
  clear H_0 H_1 H_2 H_3 H_4 H_5 H_6 H_z
  replace H := H.below K'
  replace h := h.below K'
  replace hs := hs.below K'
  replace hO := hO.below K'
  replace K := Below.then_ K K'
  clear K'
  clear f1 f2
  have EQ1 := Lib.hid (ua_turn (f := fo vs M) (t := t) (L := L) hr.out)
  have EQ2 := Lib.hid (ud_turn (f := fo vs M) (t := t) (L := L) hr.out)
  go_wp2
  go_loopw [10, 11, 12, 13] (fun sa sb sd i wr => ∃ (k qa ea qb eb qd ed : Nat) (Ca Cb Cd : Option Addr), k ≤ L ∧ sa = .slice Ca qa ea ∧ sb = .slice Cb qb eb ∧ sd = .slice Cd qd ed ∧ i = .int .i64 k ∧ Hid (IS .i64 0 wr Ca qa ea (ua xs (fo vs M) k)) ∧ Hid (IS .i64 0 wr Cb qb eb (ua xs (tn (fo vs M) t L) k)) ∧ Hid (IS .i64 0 wr Cd qd ed (ud xs (fo vs M) k)) ∧ Below w9.heap.size w9 wr) (fun _ _ _ i _ => L - (intOf i).toNat)
  case atStart => exact ⟨0, m, d, m, d, m, d, B, B, B, Nat.zero_le _, rfl, rfl, rfl, rfl, Lib.hid (hs.lower (Nat.zero_le _)), Lib.hid (hs.lower (Nat.zero_le _)), Lib.hid (hs.lower (Nat.zero_le _)), Below.refl _ _⟩
  case round =>
    obtain ⟨k, qa, ea, qb, eb, qd, ed, Ca, Cb, Cd, hk, rfl, rfl, rfl, rfl, HA, HB, HD, Kr⟩ := hrel
    have Ia := HA.out
    have Ib := HB.out
    have Id := HD.out
    clear HA HB HD
    have ba : qa ≤ 400 := by have h1 := Ia.len; have h2 := ua_len (xs := xs) (f := fo vs M) (k := k); omega
    have bb : qb ≤ 400 := by have h1 := Ib.len; have h2 := ua_len (xs := xs) (f := tn (fo vs M) t L) (k := k); omega
    have bd : qd ≤ 400 := by have h1 := Id.len; have h2 := ud_len (xs := xs) (f := fo vs M) (k := k); omega
    replace H := H.below Kr
    replace h := h.below Kr
    replace hs := hs.below Kr
    replace hO := hO.below Kr
    replace K := Below.then_ K Kr
    by_cases hlt : k < L
    · obtain ⟨bo, oo, rfl, -⟩ := hO.cells (by omega)
      obtain ⟨v1, v1e, v1b⟩ := hvs2.out k (by omega)
      have hc1 := hO.here (j := k) (by omega)
      rw [v1e] at hc1
      obtain ⟨o1, o1e⟩ : ∃ o : Nat, o = v1 % M := ⟨_, rfl⟩
      have o11 : (v1 : Int) % (M : Int) = (o1 : Int) := by rw [o1e]; exact (Int.natCast_emod v1 M).symm
      have o12 : (v1 : Int).tmod (M : Int) = (o1 : Int) := by rw [Int.tmod_eq_emod_of_nonneg (by omega)]; exact o11
      have o1M : o1 < M := by rw [o1e]; exact Nat.mod_lt _ hMp
      have o1f := Lib.hid (show fo vs M k = (o1 : Int) by unfold fo; rw [v1e]; exact o11)
      clear o1e v1e
      have T : Hid (Calls Try.prog 17 #[.slice Ca qa ea, .int .i64 (o1 : Int)] wr (RetI .i64 (ua xs (fo vs M) (k + 1)) wr)) := by rw [ua, o1f.out]; exact mwith_any Ia (by omega) (ua_ris hr.out) (o1 : Int)
      go_wp2_with fail
      refine (T.out).mono ?_
      rintro e w10 ⟨JaA, Jan, Jac, rfl, Ja, K'⟩
      replace H := H.below K'
      replace h := h.below K'
      replace hs := hs.below K'
      replace hO := hO.below K'
      replace Ia := Ia.below K'
      replace Ib := Ib.below K'
      replace Id := Id.below K'
      replace Kr := Below.then_ Kr K'
      replace K := Below.then_ K K'
      clear K'
      clear Ia
      clear T hc1
      obtain ⟨r, hre⟩ : ∃ r : Nat, r = (k + t) % L := ⟨_, rfl⟩
      have hr1 : ((k : Int) + (t : Int)) % (L : Int) = (r : Int) := by rw [hre, Int.natCast_emod, Int.natCast_add]
      have hr2 : ((k : Int) + (t : Int)).tmod (L : Int) = (r : Int) := by rw [Int.tmod_eq_emod_of_nonneg (by omega)]; exact hr1
      have hrL : r < L := by rw [hre]; exact Nat.mod_lt _ (by omega)
      have hrt := Lib.hid (show tn (fo vs M) t L k = fo vs M r by unfold tn; rw [hre])
      clear hre
      obtain ⟨v2, v2e, v2b⟩ := hvs2.out r (by omega)
      have hc2 := hO.here (j := r) (by omega)
      rw [v2e] at hc2
      obtain ⟨o2, o2e⟩ : ∃ o : Nat, o = v2 % M := ⟨_, rfl⟩
      have o21 : (v2 : Int) % (M : Int) = (o2 : Int) := by rw [o2e]; exact (Int.natCast_emod v2 M).symm
      have o22 : (v2 : Int).tmod (M : Int) = (o2 : Int) := by rw [Int.tmod_eq_emod_of_nonneg (by omega)]; exact o21
      have o2M : o2 < M := by rw [o2e]; exact Nat.mod_lt _ hMp
      have o2f := Lib.hid (show fo vs M r = (o2 : Int) by unfold fo; rw [v2e]; exact o21)
      clear o2e v2e
      have T : Hid (Calls Try.prog 17 #[.slice Cb qb eb, .int .i64 (o2 : Int)] w10 (RetI .i64 (ua xs (tn (fo vs M) t L) (k + 1)) w10)) := by rw [ua, hrt.out, o2f.out]; exact mwith_any Ib (by omega) (ua_ris hr.out) (o2 : Int)
      go_wp2_with fail
      refine (T.out).mono ?_
      rintro e w11 ⟨JbA, Jbn, Jbc, rfl, Jb, K'⟩
      replace H := H.below K'
      replace h := h.below K'
      replace hs := hs.below K'
      replace hO := hO.below K'
      replace Ib := Ib.below K'
      replace Id := Id.below K'
      replace Ja := Ja.below K'
      replace Kr := Below.then_ Kr K'
      replace K := Below.then_ K K'
      clear K'
      clear Ib
      clear T hc2
      have T : Hid (Calls Try.prog 19 #[.slice Cd qd ed, .int .i64 (o1 : Int)] w11 (RetI .i64 (ud xs (fo vs M) (k + 1)) w11)) := by rw [ud, o1f.out]; exact mwithout_any Id (by omega) (ud_ris hr.out) (o1 : Int)
      go_wp2_with fail
      refine (T.out).mono ?_
      rintro e w12 ⟨JdA, Jdn, Jdc, rfl, Jd, K'⟩
      replace H := H.below K'
      replace h := h.below K'
      replace hs := hs.below K'
      replace hO := hO.below K'
      replace Id := Id.below K'
      replace Ja := Ja.below K'
      replace Jb := Jb.below K'
      replace Kr := Below.then_ Kr K'
      replace K := Below.then_ K K'
      clear K'
      clear Id
      clear T
      go_wp2
      go_roundw
      case rel => exact ⟨k + 1, _, _, _, _, _, _, _, _, _, by omega, rfl, rfl, rfl, by go_num, Lib.hid Ja, Lib.hid Jb, Lib.hid Jd, Kr⟩
      case measure => simp [intOf]; omega
    obtain ⟨hkL⟩ : Nonempty (k = L) := ⟨by omega⟩
    subst hkL
    clear hlt hk
    rw [EQ1.out] at Ib
    go_wp2
    clear Kr
    go_loopw [15, 16] (fun se i ws => ∃ (j q e : Nat) (C : Option Addr), j ≤ k ∧ se = .slice C q e ∧ i = .int .i64 j ∧ Hid (IS .i64 0 ws C q e (ud (ua xs (fo vs M) k) (tn (fo vs M) t k) j)) ∧ Below wr.heap.size wr ws) (fun _ i _ => k - (intOf i).toNat)
    case atStart => exact ⟨0, qa, ea, Ca, Nat.zero_le _, rfl, rfl, Lib.hid Ia, Below.refl _ _⟩
    case round =>
      obtain ⟨j, q, e, C, hj, rfl, rfl, HE, Kr⟩ := hrel
      have Ie := HE.out
      clear HE
      have be : q ≤ 400 := by have h1 := Ie.len; have h2 := ud_len (xs := ua xs (fo vs M) k) (f := tn (fo vs M) t k) (k := j); have h3 := ua_len (xs := xs) (f := fo vs M) (k := k); omega
      by_cases hlt : j < k
      · obtain ⟨bo, oo, rfl, -⟩ := hO.cells (by omega)
        replace hO := hO.below Kr
        obtain ⟨r, hre⟩ : ∃ r : Nat, r = (j + t) % k := ⟨_, rfl⟩
        have hr1 : ((j : Int) + (t : Int)) % (k : Int) = (r : Int) := by rw [hre, Int.natCast_emod, Int.natCast_add]
        have hr2 : ((j : Int) + (t : Int)).tmod (k : Int) = (r : Int) := by rw [Int.tmod_eq_emod_of_nonneg (by omega)]; exact hr1
        have hrL : r < k := by rw [hre]; exact Nat.mod_lt _ (by omega)
        have hrt := Lib.hid (show tn (fo vs M) t k j = fo vs M r by unfold tn; rw [hre])
        clear hre
        obtain ⟨v2, v2e, v2b⟩ := hvs2.out r (by omega)
        have hc2 := hO.here (j := r) (by omega)
        rw [v2e] at hc2
        obtain ⟨o2, o2e⟩ : ∃ o : Nat, o = v2 % M := ⟨_, rfl⟩
        have o21 : (v2 : Int) % (M : Int) = (o2 : Int) := by rw [o2e]; exact (Int.natCast_emod v2 M).symm
        have o22 : (v2 : Int).tmod (M : Int) = (o2 : Int) := by rw [Int.tmod_eq_emod_of_nonneg (by omega)]; exact o21
        have o2M : o2 < M := by rw [o2e]; exact Nat.mod_lt _ hMp
        have o2f := Lib.hid (show fo vs M r = (o2 : Int) by unfold fo; rw [v2e]; exact o21)
        clear o2e v2e
        have T : ∀ ws, IS .i64 0 ws C q e (ud (ua xs (fo vs M) k) (tn (fo vs M) t k) j) → Hid (Calls Try.prog 19 #[.slice C q e, .int .i64 (o2 : Int)] ws (RetI .i64 (ud (ua xs (fo vs M) k) (tn (fo vs M) t k) (j + 1)) ws)) := fun ws Ie => by rw [ud, hrt.out, o2f.out]; exact mwithout_any Ie (by omega) (ud_ris (ua_ris hr.out)) (o2 : Int)
        replace T := T _ Ie
        go_wp2_with fail
        refine (T.out).mono ?_
        rintro e w13 ⟨JA, Jn, Jc, rfl, J, K'⟩
        replace Kr := Below.then_ Kr K'
        clear K' T hc2
        go_wp2
        go_roundw
        case rel => exact ⟨j + 1, _, _, _, by omega, rfl, by go_num, Lib.hid J, Kr⟩
        case measure => simp [intOf]; omega
      · obtain ⟨hjk⟩ : Nonempty (j = k) := ⟨by omega⟩
        subst hjk
        rw [EQ2.out] at Ie
        replace H := H.below Kr
        replace h := h.below Kr
        replace hs := hs.below Kr
        replace hO := hO.below Kr
        replace Ia := Ia.below Kr
        replace Ib := Ib.below Kr
        replace Id := Id.below Kr
        replace K := Below.then_ K Kr
        clear Kr
        go_wp2_with fail
        refine (ints_same Ia Ib (by omega)).mono ?_
        rintro e w14 ⟨rfl, K'⟩
        replace H := H.below K'
        replace h := h.below K'
        replace hs := hs.below K'
        replace hO := hO.below K'
        replace Ia := Ia.below K'
        replace Ib := Ib.below K'
        replace Id := Id.below K'
        replace Ie := Ie.below K'
        replace K := Below.then_ K K'
        clear K'
        go_wp2_with fail
        refine (ints_same Ie Id (by omega)).mono ?_
        rintro e w15 ⟨rfl, K'⟩
        replace H := H.below K'
        replace h := h.below K'
        replace hs := hs.below K'
        replace hO := hO.below K'
        replace Ia := Ia.below K'
        replace Ib := Ib.below K'
        replace Id := Id.below K'
        replace Ie := Ie.below K'
        replace K := Below.then_ K K'
        clear K'
        go_wp2_with fail
        refine (rises_any Ia).mono ?_
        rintro e w16 ⟨bo, rfl, hB, K'⟩
        replace H := H.below K'
        replace h := h.below K'
        replace hs := hs.below K'
        replace hO := hO.below K'
        replace Ia := Ia.below K'
        replace Ib := Ib.below K'
        replace Id := Id.below K'
        replace Ie := Ie.below K'
        replace K := Below.then_ K K'
        clear K'
        have hrs := Lib.hid (ua_ris (f := fo vs M) (k := j) hr.out)
        clear Ib Id Ie
        rcases bo with _ | _
        · have f1 : ¬ (qa ≤ 300) := fun g => by have := hB.2 ⟨hrs.out, g⟩; cases this
          have f2 : decide ((qa : Int) ≤ 300) = false := by simp; omega
          clear hB
          clear Ia
          replace hx := hx
          have H_0 := H.at_ (v := .int .u32 a) 0 rfl
          have H_1 := H.at_ (v := .int .i64 p) 1 rfl
          have H_2 := H.at_ (v := .slice A n c) 2 rfl
          have H_3 := H.at_ (v := .int .i64 sh) 3 rfl
          have H_4 := H.at_ (v := .int .i64 wo) 4 rfl
          have H_5 := H.at_ (v := .int .i64 qu) 5 rfl
          have H_6 := H.at_ (v := .int .i64 tr) 6 rfl
          have H_z := H.lt
          go_wp2_with fail
          refine (maddrs_any (a := a) (p := p) (sh := sh) (wo := wo) (qu := qu) (tr := tr) (A := A) (n := n) (c := c) hs (by omega) hx.out).mono ?_
          rintro e w17 ⟨gR, rfl, hgR, BR, K'⟩
          clear H_0 H_1 H_2 H_3 H_4 H_5 H_6 H_z
          replace K := Below.then_ K K'
          have IR := BR.is (n := m) (by rw [ads_len]; exact hl) (by omega)
          clear K' BR hgR H h hs hO
          go_wp2
          go_loopw [18] (fun i wr => ∃ k : Nat, (k ≤ m ∨ k = 1) ∧ 1 ≤ k ∧ i = .int .i64 k ∧ Below w17.heap.size w17 wr) (fun i _ => m - (intOf i).toNat)
          case atStart => exact ⟨1, .inr rfl, Nat.le_refl _, rfl, Below.refl _ _⟩
          case round =>
            obtain ⟨k, hk, hk1, rfl, Kr⟩ := hrel
            replace hk := Lib.hid hk
            by_cases hlt : k < m
            · obtain ⟨q, rfl⟩ : ∃ q, k = q + 1 := ⟨k - 1, by omega⟩
              have hc1 := (IR.below Kr).here (j := q) (by omega)
              have hc2 := (IR.below Kr).here (j := q + 1) hlt
              rw [Nat.zero_add] at hc1 hc2
              have hlt2 := hrise.out q (by omega)
              have f1 : decide (gi (ads a xs) (q + 1) ≤ gi (ads a xs) q) = false := by simp; omega
              clear hlt2
              have hm5 : m ≤ 300 := by omega
              have hq5 : q < m := by omega
              generalize gi (ads a xs) q = v1 at *
              generalize gi (ads a xs) (q + 1) = v2 at *
              go_wp2
              go_quiet (fail)
              go_wp2
              go_roundw
              case rel => exact ⟨q + 1 + 1, .inl (by omega), by omega, by go_num, below_drewN Kr _⟩
              case measure => simp [intOf]; omega
            · have f1 : ((m : Int) == (m : Int)) = true := by simp
              replace K := Below.then_ K Kr
              go_wp2
              go_ret
              exact ⟨rfl, K⟩
        · clear hB
          clear Ia
          replace hx := hx
          have H_0 := H.at_ (v := .int .u32 a) 0 rfl
          have H_1 := H.at_ (v := .int .i64 p) 1 rfl
          have H_2 := H.at_ (v := .slice A n c) 2 rfl
          have H_3 := H.at_ (v := .int .i64 sh) 3 rfl
          have H_4 := H.at_ (v := .int .i64 wo) 4 rfl
          have H_5 := H.at_ (v := .int .i64 qu) 5 rfl
          have H_6 := H.at_ (v := .int .i64 tr) 6 rfl
          have H_z := H.lt
          go_wp2_with fail
          refine (maddrs_any (a := a) (p := p) (sh := sh) (wo := wo) (qu := qu) (tr := tr) (A := A) (n := n) (c := c) hs (by omega) hx.out).mono ?_
          rintro e w18 ⟨gR, rfl, hgR, BR, K'⟩
          clear H_0 H_1 H_2 H_3 H_4 H_5 H_6 H_z
          replace K := Below.then_ K K'
          have IR := BR.is (n := m) (by rw [ads_len]; exact hl) (by omega)
          clear K' BR hgR H h hs hO
          go_wp2
          go_loopw [18] (fun i wr => ∃ k : Nat, (k ≤ m ∨ k = 1) ∧ 1 ≤ k ∧ i = .int .i64 k ∧ Below w18.heap.size w18 wr) (fun i _ => m - (intOf i).toNat)
          case atStart => exact ⟨1, .inr rfl, Nat.le_refl _, rfl, Below.refl _ _⟩
          case round =>
            obtain ⟨k, hk, hk1, rfl, Kr⟩ := hrel
            replace hk := Lib.hid hk
            by_cases hlt : k < m
            · obtain ⟨q, rfl⟩ : ∃ q, k = q + 1 := ⟨k - 1, by omega⟩
              have hc1 := (IR.below Kr).here (j := q) (by omega)
              have hc2 := (IR.below Kr).here (j := q + 1) hlt
              rw [Nat.zero_add] at hc1 hc2
              have hlt2 := hrise.out q (by omega)
              have f1 : decide (gi (ads a xs) (q + 1) ≤ gi (ads a xs) q) = false := by simp; omega
              clear hlt2
              have hm5 : m ≤ 300 := by omega
              have hq5 : q < m := by omega
              generalize gi (ads a xs) q = v1 at *
              generalize gi (ads a xs) (q + 1) = v2 at *
              go_wp2
              go_quiet (fail)
              go_wp2
              go_roundw
              case rel => exact ⟨q + 1 + 1, .inl (by omega), by omega, by go_num, below_drewN Kr _⟩
              case measure => simp [intOf]; omega
            · have f1 : ((m : Int) == (m : Int)) = true := by simp
              replace K := Below.then_ K Kr
              go_wp2
              go_ret
              exact ⟨rfl, K⟩
end
theorem walk (a p : Int) (A : Option Addr) (n c : Nat) (z : List Int) (sh wo qu tr : Int) (B : Option Addr) (m d : Nat) (zb : List Int) (BL : Option Addr) (L dL : Nat) (zl : List Int) (x : Int) (w : World) (wa : (Lit.int .u32 a).wf = true) (wr : IsRow .i64 w A n c z) (wb : IsRow .i64 w B m d zb) (wl : IsRow .u16 w BL L dL zl) (wx : (Lit.int .u8 x).wf = true) :
    Calls Try.prog 8 #[.agg #[.int .u32 a, .int .i64 p, .slice A n c, .int .i64 sh, .int .i64 wo, .int .i64 qu, .int .i64 tr], .slice B m d, .slice BL L dL, .int .u8 x] w fun e w' => e = .returned (.bool true) ∧ Below w.heap.size w w' := by
  obtain ⟨a, rfl, ha⟩ := wf_u32 wa
  obtain ⟨zs, h, _⟩ := IS.of_row wr
  obtain ⟨xs, hs, _⟩ := IS.of_row wb
  obtain ⟨vs, hO, hvs⟩ := IS.of_row wl
  obtain ⟨t, rfl, ht⟩ := wf_u8 wx
  exact main ha h hs hO hvs ht
end Go.Proofs.Ythnmneinimlpcaa.modelOrder
