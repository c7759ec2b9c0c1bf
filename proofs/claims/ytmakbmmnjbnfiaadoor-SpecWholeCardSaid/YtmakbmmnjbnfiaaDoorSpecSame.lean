/-
  Answers held against one another, by the program and by the document: all fields; what the document's Few and Fits tell; nothing that was there is otherwise. Conditions: lists of at most 65536.
-/
import Derived.Test.YtmakbmmnjbnfiaaDoorSpecMath
namespace Go.Proofs.YtmakbmmnjbnfiaaDoor
open Go.RowKit
set_option linter.unusedVariables false
theorem an_sz {c0 c1 c2 c3 c4 : Value} : (Tryd.prog.info? 34).map (·.size) = some (#[c0, c1, c2, c3, c4] : Array Value).size := by kernel_rfl
theorem an_iff (x y : An) : x = y ↔ x.1 = y.1 ∧ x.2.1 = y.2.1 ∧ x.2.2.1 = y.2.2.1 ∧ x.2.2.2.1 = y.2.2.2.1 ∧ x.2.2.2.2 = y.2.2.2.2 := by
  obtain ⟨a, b, c, d, e⟩ := x
  obtain ⟨a', b', c', d', e'⟩ := y
  simp only [Prod.mk.injEq]
section
variable {w : World} {lo lo' : Nat} {A A' : Option Addr} {n n' c c' : Nat} {xs xs' : List Int}
theorem ext_deci {k : Nat} (h : IS .i64 lo w A n c xs) (h' : IS .i64 lo' w A' n c' xs') (hk : n ≤ k) (e : ∀ j, j < k → gi xs j = gi xs' j) : xs = xs' :=
  ext_gi (h.len.trans h'.len.symm) (fun j hj => e j (by have := h.len; omega))
theorem equali_any (h : IS .i64 lo w A n c xs) (h' : IS .i64 lo' w A' n' c' xs') (hn : n ≤ 65536) (hn' : n' ≤ 65536) :
    Calls Tryd.prog 41 #[.slice A n c, .slice A' n' c'] w (RetBo (decide (xs = xs')) w) := by
  have hl := h.len
  have hl' := h'.len
  by_cases hnn : n = n'
  · subst hnn
    have e0 : ((n : Int) != (n : Int)) = false := by simp
    have hl2 := Lib.hid hl'
    clear hl'
    go_enter Tryd.func41, Tryd.ntmps41
    go_wp2
    go_loopw [13] (fun i wr => ∃ k : Nat, k ≤ n ∧ i = .int .i64 k ∧ Below w.heap.size w wr ∧ Hid (∀ j, j < k → gi xs j = gi xs' j)) (fun i _ => n - (intOf i).toNat)
    case atStart => exact ⟨0, Nat.zero_le _, rfl, Below.refl _ _, Lib.hid (fun j hj => absurd hj (by omega))⟩
    case round =>
      obtain ⟨k, hk, rfl, Kr, he⟩ := hrel
      by_cases hlt : k < n
      · obtain ⟨b, o, rfl, _, hc⟩ := (h.below Kr).get hlt
        obtain ⟨b', o', rfl, _, hc'⟩ := (h'.below Kr).get hlt
        by_cases hx : gi xs k = gi xs' k
        · have e1 : (gi xs k != gi xs' k) = false := by simp [hx]
          have hx := Lib.hid hx
          go_wp2
          go_quiet (fail)
          go_wp2
          go_roundw
          case rel =>
            refine ⟨k + 1, by omega, by go_num, below_drewN Kr _, Lib.hid (fun j hj => ?_)⟩
            rcases Nat.lt_or_ge j k with g | g
            · exact he.out j g
            · obtain rfl : j = k := by omega
              exact hx.out
          case measure => simp [intOf]; omega
        · have e1 : (gi xs k != gi xs' k) = true := by simp [hx]
          have hx := Lib.hid hx
          go_wp2
          go_quiet (fail)
          go_wp2
          go_ret
          exact ⟨ret_bool (by simp; intro e; exact hx.out (by rw [e])), below_drewN Kr _⟩
      · go_wp2
        go_ret
        exact ⟨ret_bool (by simp; exact ext_deci h h' (by omega) he.out), Kr⟩
  · have e0 : ((n : Int) != (n' : Int)) = true := by simp; omega
    have hx : ¬ xs = xs' := by intro e; rw [e] at hl; omega
    clear hl hl'
    have hx := Lib.hid hx
    go_enter Tryd.func41, Tryd.ntmps41
    go_wp2
    go_ret
    exact ⟨ret_bool (by simp [hx.out]), Below.refl _ _⟩
theorem rerrs_any (h : IS .i64 lo w A n c xs) (h' : IS .i64 lo' w A' n' c' xs') (hn : n ≤ 65536) (hn' : n' ≤ 65536) :
    Calls Tryd.prog 28 #[.slice A n c, .slice A' n' c'] w (RetBo (decide (xs = xs')) w) := by
  have hl := h.len
  have hl' := h'.len
  by_cases hnn : n = n'
  · subst hnn
    have e0 : ((n : Int) != (n : Int)) = false := by simp
    have hl2 := Lib.hid hl'
    clear hl'
    go_enter Tryd.func28, Tryd.ntmps28
    go_wp2
    go_loopw [5] (fun i wr => ∃ k : Nat, k ≤ n ∧ i = .int .i64 k ∧ Below w.heap.size w wr ∧ Hid (∀ j, j < k → gi xs j = gi xs' j)) (fun i _ => n - (intOf i).toNat)
    case atStart => exact ⟨0, Nat.zero_le _, rfl, Below.refl _ _, Lib.hid (fun j hj => absurd hj (by omega))⟩
    case round =>
      obtain ⟨k, hk, rfl, Kr, he⟩ := hrel
      by_cases hlt : k < n
      · obtain ⟨b, o, rfl, _, hc⟩ := (h.below Kr).get hlt
        obtain ⟨b', o', rfl, _, hc'⟩ := (h'.below Kr).get hlt
        by_cases hx : gi xs k = gi xs' k
        · have e1 : (gi xs k != gi xs' k) = false := by simp [hx]
          have hx := Lib.hid hx
          go_wp2
          go_quiet (fail)
          go_wp2
          go_roundw
          case rel =>
            refine ⟨k + 1, by omega, by go_num, below_drewN Kr _, Lib.hid (fun j hj => ?_)⟩
            rcases Nat.lt_or_ge j k with g | g
            · exact he.out j g
            · obtain rfl : j = k := by omega
              exact hx.out
          case measure => simp [intOf]; omega
        · have e1 : (gi xs k != gi xs' k) = true := by simp [hx]
          have hx := Lib.hid hx
          go_wp2
          go_quiet (fail)
          go_wp2
          go_ret
          exact ⟨ret_bool (by simp; intro e; exact hx.out (by rw [e])), below_drewN Kr _⟩
      · go_wp2
        go_ret
        exact ⟨ret_bool (by simp; exact ext_deci h h' (by omega) he.out), Kr⟩
  · have e0 : ((n : Int) != (n' : Int)) = true := by simp; omega
    have hx : ¬ xs = xs' := by intro e; rw [e] at hl; omega
    clear hl hl'
    have hx := Lib.hid hx
    go_enter Tryd.func28, Tryd.ntmps28
    go_wp2
    go_ret
    exact ⟨ret_bool (by simp [hx.out]), Below.refl _ _⟩
end
section
variable {w : World} {lo lo2 lo3 lo4 p1 p2 q1 q2 p1' p2' q1' q2' : Nat} {E D E' D' : Int} {U U' : Bool} {P Q P' Q' : Option Addr} {gs es gs' es' : List Int}
set_option maxRecDepth 100000 in
set_option maxHeartbeats 4000000 in
theorem same5 (hA : IS .u32 lo w P p1 p2 gs) (hE : IS .i64 lo2 w Q q1 q2 es) (hA' : IS .u32 lo3 w P' p1' p2' gs') (hE' : IS .i64 lo4 w Q' q1' q2' es') (b1 : p1 ≤ 65536) (b2 : q1 ≤ 65536) (b3 : p1' ≤ 65536) (b4 : q1' ≤ 65536) :
    Calls Tryd.prog 19 #[.agg #[.int .i64 E, .int .u32 D, .bool U, .slice P p1 p2, .slice Q q1 q2], .agg #[.int .i64 E', .int .u32 D', .bool U', .slice P' p1' p2', .slice Q' q1' q2']] w (RetBo (decide (E = E' ∧ D = D' ∧ U = U' ∧ gs = gs' ∧ es = es')) w) := by
  have K := Below.refl w.heap.size w
  go_enter Tryd.func19, Tryd.ntmps19
  go_upto_region 1 with (fail)
  replace hA := hA.below (below_alloc _ (.cells #[.int .i64 E, .int .u32 D, .bool U, .slice P p1 p2, .slice Q q1 q2] 34))
  replace hE := hE.below (below_alloc _ (.cells #[.int .i64 E, .int .u32 D, .bool U, .slice P p1 p2, .slice Q q1 q2] 34))
  replace hA' := hA'.below (below_alloc _ (.cells #[.int .i64 E, .int .u32 D, .bool U, .slice P p1 p2, .slice Q q1 q2] 34))
  replace hE' := hE'.below (below_alloc _ (.cells #[.int .i64 E, .int .u32 D, .bool U, .slice P p1 p2, .slice Q q1 q2] 34))
  replace K := Below.then_ K (below_alloc _ (.cells #[.int .i64 E, .int .u32 D, .bool U, .slice P p1 p2, .slice Q q1 q2] 34))
  have G := Bk.new (w) #[.int .i64 E, .int .u32 D, .bool U, .slice P p1 p2, .slice Q q1 q2] 34
  replace G := G.alloc (.cells #[.int .i64 E', .int .u32 D', .bool U', .slice P' p1' p2', .slice Q' q1' q2'] 34)
  replace hA := hA.below (below_alloc _ (.cells #[.int .i64 E', .int .u32 D', .bool U', .slice P' p1' p2', .slice Q' q1' q2'] 34))
  replace hE := hE.below (below_alloc _ (.cells #[.int .i64 E', .int .u32 D', .bool U', .slice P' p1' p2', .slice Q' q1' q2'] 34))
  replace hA' := hA'.below (below_alloc _ (.cells #[.int .i64 E', .int .u32 D', .bool U', .slice P' p1' p2', .slice Q' q1' q2'] 34))
  replace hE' := hE'.below (below_alloc _ (.cells #[.int .i64 E', .int .u32 D', .bool U', .slice P' p1' p2', .slice Q' q1' q2'] 34))
  replace K := Below.then_ K (below_alloc _ (.cells #[.int .i64 E', .int .u32 D', .bool U', .slice P' p1' p2', .slice Q' q1' q2'] 34))
  have J := Bk.new ((w).alloc (.cells #[.int .i64 E, .int .u32 D, .bool U, .slice P p1 p2, .slice Q q1 q2] 34)) #[.int .i64 E', .int .u32 D', .bool U', .slice P' p1' p2', .slice Q' q1' q2'] 34
  try simp only [World.size_alloc] at G J
  generalize ((w).alloc (.cells #[.int .i64 E, .int .u32 D, .bool U, .slice P p1 p2, .slice Q q1 q2] 34)).alloc (.cells #[.int .i64 E', .int .u32 D', .bool U', .slice P' p1' p2', .slice Q' q1' q2'] 34) = w1 at G J hA hE hA' hE' K ⊢
  generalize w.heap.size + 1 = gJ at G J ⊢
  generalize w.heap.size = gG at G J ⊢
  by_cases e1 : E = E'
  · have g1 : (E == E') = true := by simp [e1]
    replace e1 := Lib.hid e1
    by_cases e2 : D = D'
    · have g2 : (D == D') = true := by simp [e2]
      replace e2 := Lib.hid e2
      by_cases e3 : U = U'
      · have g3 : (U == U') = true := by simp [e3]
        replace e3 := Lib.hid e3
        have T := equal_any hA hA' b1 b3
        by_cases e4 : gs = gs'
        · rw [decide_eq_true e4] at T
          replace T := Lib.hid T
          replace e4 := Lib.hid e4
          have G_0 := G.at_ (v := .int .i64 E) 0 rfl
          have G_1 := G.at_ (v := .int .u32 D) 1 rfl
          have G_2 := G.at_ (v := .bool U) 2 rfl
          have G_3 := G.at_ (v := .slice P p1 p2) 3 rfl
          have G_4 := G.at_ (v := .slice Q q1 q2) 4 rfl
          have G_z := G.lt
          have J_0 := J.at_ (v := .int .i64 E') 0 rfl
          have J_1 := J.at_ (v := .int .u32 D') 1 rfl
          have J_2 := J.at_ (v := .bool U') 2 rfl
          have J_3 := J.at_ (v := .slice P' p1' p2') 3 rfl
          have J_4 := J.at_ (v := .slice Q' q1' q2') 4 rfl
          have J_z := J.lt
          go_wp2_with fail
          refine T.out.mono ?_
          rintro e ww ⟨rfl, K'⟩
          clear G_0 G_1 G_2 G_3 G_4 G_z
          clear J_0 J_1 J_2 J_3 J_4 J_z
          clear T
          replace G := G.below K'
          replace J := J.below K'
          replace hA := hA.below K'
          replace hE := hE.below K'
          replace hA' := hA'.below K'
          replace hE' := hE'.below K'
          replace K := Below.then_ K K'
          clear K'
          have T := Lib.hid (equali_any hE hE' b2 b4)
          have G_0 := G.at_ (v := .int .i64 E) 0 rfl
          have G_1 := G.at_ (v := .int .u32 D) 1 rfl
          have G_2 := G.at_ (v := .bool U) 2 rfl
          have G_3 := G.at_ (v := .slice P p1 p2) 3 rfl
          have G_4 := G.at_ (v := .slice Q q1 q2) 4 rfl
          have G_z := G.lt
          have J_0 := J.at_ (v := .int .i64 E') 0 rfl
          have J_1 := J.at_ (v := .int .u32 D') 1 rfl
          have J_2 := J.at_ (v := .bool U') 2 rfl
          have J_3 := J.at_ (v := .slice P' p1' p2') 3 rfl
          have J_4 := J.at_ (v := .slice Q' q1' q2') 4 rfl
          have J_z := J.lt
          go_wp2_with fail
          refine T.out.mono ?_
          rintro e w5 ⟨rfl, K'⟩
          go_wp2
          go_ret
          exact ⟨ret_bool (by simp [e1.out, e2.out, e3.out, e4.out]), Below.then_ K K'⟩
        · rw [decide_eq_false e4] at T
          replace T := Lib.hid T
          replace e4 := Lib.hid e4
          have G_0 := G.at_ (v := .int .i64 E) 0 rfl
          have G_1 := G.at_ (v := .int .u32 D) 1 rfl
          have G_2 := G.at_ (v := .bool U) 2 rfl
          have G_3 := G.at_ (v := .slice P p1 p2) 3 rfl
          have G_4 := G.at_ (v := .slice Q q1 q2) 4 rfl
          have G_z := G.lt
          have J_0 := J.at_ (v := .int .i64 E') 0 rfl
          have J_1 := J.at_ (v := .int .u32 D') 1 rfl
          have J_2 := J.at_ (v := .bool U') 2 rfl
          have J_3 := J.at_ (v := .slice P' p1' p2') 3 rfl
          have J_4 := J.at_ (v := .slice Q' q1' q2') 4 rfl
          have J_z := J.lt
          go_wp2_with fail
          refine T.out.mono ?_
          rintro e w5 ⟨rfl, K'⟩
          go_wp2
          go_ret
          exact ⟨ret_bool (by simp [e4.out]), Below.then_ K K'⟩
      · have g3 : (U == U') = false := by simp [e3]
        replace e3 := Lib.hid e3
        have G_0 := G.at_ (v := .int .i64 E) 0 rfl
        have G_1 := G.at_ (v := .int .u32 D) 1 rfl
        have G_2 := G.at_ (v := .bool U) 2 rfl
        have G_3 := G.at_ (v := .slice P p1 p2) 3 rfl
        have G_4 := G.at_ (v := .slice Q q1 q2) 4 rfl
        have G_z := G.lt
        have J_0 := J.at_ (v := .int .i64 E') 0 rfl
        have J_1 := J.at_ (v := .int .u32 D') 1 rfl
        have J_2 := J.at_ (v := .bool U') 2 rfl
        have J_3 := J.at_ (v := .slice P' p1' p2') 3 rfl
        have J_4 := J.at_ (v := .slice Q' q1' q2') 4 rfl
        have J_z := J.lt
        go_wp2
        go_ret
        exact ⟨ret_bool (by simp [e3.out]), K⟩
    · have g2 : (D == D') = false := by simp [e2]
      replace e2 := Lib.hid e2
      have G_0 := G.at_ (v := .int .i64 E) 0 rfl
      have G_1 := G.at_ (v := .int .u32 D) 1 rfl
      have G_2 := G.at_ (v := .bool U) 2 rfl
      have G_3 := G.at_ (v := .slice P p1 p2) 3 rfl
      have G_4 := G.at_ (v := .slice Q q1 q2) 4 rfl
      have G_z := G.lt
      have J_0 := J.at_ (v := .int .i64 E') 0 rfl
      have J_1 := J.at_ (v := .int .u32 D') 1 rfl
      have J_2 := J.at_ (v := .bool U') 2 rfl
      have J_3 := J.at_ (v := .slice P' p1' p2') 3 rfl
      have J_4 := J.at_ (v := .slice Q' q1' q2') 4 rfl
      have J_z := J.lt
      go_wp2
      go_ret
      exact ⟨ret_bool (by simp [e2.out]), K⟩
  · have g1 : (E == E') = false := by simp [e1]
    replace e1 := Lib.hid e1
    have G_0 := G.at_ (v := .int .i64 E) 0 rfl
    have G_1 := G.at_ (v := .int .u32 D) 1 rfl
    have G_2 := G.at_ (v := .bool U) 2 rfl
    have G_3 := G.at_ (v := .slice P p1 p2) 3 rfl
    have G_4 := G.at_ (v := .slice Q q1 q2) 4 rfl
    have G_z := G.lt
    have J_0 := J.at_ (v := .int .i64 E') 0 rfl
    have J_1 := J.at_ (v := .int .u32 D') 1 rfl
    have J_2 := J.at_ (v := .bool U') 2 rfl
    have J_3 := J.at_ (v := .slice P' p1' p2') 3 rfl
    have J_4 := J.at_ (v := .slice Q' q1' q2') 4 rfl
    have J_z := J.lt
    go_wp2
    go_ret
    exact ⟨ret_bool (by simp [e1.out]), K⟩
set_option maxRecDepth 100000 in
set_option maxHeartbeats 4000000 in
theorem answers5 (hA : IS .u32 lo w P p1 p2 gs) (hE : IS .i64 lo2 w Q q1 q2 es) (hA' : IS .u32 lo3 w P' p1' p2' gs') (hE' : IS .i64 lo4 w Q' q1' q2' es') (b1 : p1 ≤ 65536) (b2 : q1 ≤ 65536) (b3 : p1' ≤ 65536) (b4 : q1' ≤ 65536) :
    Calls Tryd.prog 18 #[.agg #[.int .i64 E, .int .u32 D, .bool U, .slice P p1 p2, .slice Q q1 q2], .agg #[.int .i64 E', .int .u32 D', .bool U', .slice P' p1' p2', .slice Q' q1' q2']] w (RetBo (decide (E = E' ∧ D = D' ∧ U = U' ∧ gs = gs' ∧ es = es')) w) := by
  have K := Below.refl w.heap.size w
  go_enter Tryd.func18, Tryd.ntmps18
  go_upto_region 1 with (fail)
  replace hA := hA.below (below_alloc _ (.cells #[.int .i64 E, .int .u32 D, .bool U, .slice P p1 p2, .slice Q q1 q2] 34))
  replace hE := hE.below (below_alloc _ (.cells #[.int .i64 E, .int .u32 D, .bool U, .slice P p1 p2, .slice Q q1 q2] 34))
  replace hA' := hA'.below (below_alloc _ (.cells #[.int .i64 E, .int .u32 D, .bool U, .slice P p1 p2, .slice Q q1 q2] 34))
  replace hE' := hE'.below (below_alloc _ (.cells #[.int .i64 E, .int .u32 D, .bool U, .slice P p1 p2, .slice Q q1 q2] 34))
  replace K := Below.then_ K (below_alloc _ (.cells #[.int .i64 E, .int .u32 D, .bool U, .slice P p1 p2, .slice Q q1 q2] 34))
  have G := Bk.new (w) #[.int .i64 E, .int .u32 D, .bool U, .slice P p1 p2, .slice Q q1 q2] 34
  replace G := G.alloc (.cells #[.int .i64 E', .int .u32 D', .bool U', .slice P' p1' p2', .slice Q' q1' q2'] 34)
  replace hA := hA.below (below_alloc _ (.cells #[.int .i64 E', .int .u32 D', .bool U', .slice P' p1' p2', .slice Q' q1' q2'] 34))
  replace hE := hE.below (below_alloc _ (.cells #[.int .i64 E', .int .u32 D', .bool U', .slice P' p1' p2', .slice Q' q1' q2'] 34))
  replace hA' := hA'.below (below_alloc _ (.cells #[.int .i64 E', .int .u32 D', .bool U', .slice P' p1' p2', .slice Q' q1' q2'] 34))
  replace hE' := hE'.below (below_alloc _ (.cells #[.int .i64 E', .int .u32 D', .bool U', .slice P' p1' p2', .slice Q' q1' q2'] 34))
  replace K := Below.then_ K (below_alloc _ (.cells #[.int .i64 E', .int .u32 D', .bool U', .slice P' p1' p2', .slice Q' q1' q2'] 34))
  have J := Bk.new ((w).alloc (.cells #[.int .i64 E, .int .u32 D, .bool U, .slice P p1 p2, .slice Q q1 q2] 34)) #[.int .i64 E', .int .u32 D', .bool U', .slice P' p1' p2', .slice Q' q1' q2'] 34
  try simp only [World.size_alloc] at G J
  generalize ((w).alloc (.cells #[.int .i64 E, .int .u32 D, .bool U, .slice P p1 p2, .slice Q q1 q2] 34)).alloc (.cells #[.int .i64 E', .int .u32 D', .bool U', .slice P' p1' p2', .slice Q' q1' q2'] 34) = w1 at G J hA hE hA' hE' K ⊢
  generalize w.heap.size + 1 = gJ at G J ⊢
  generalize w.heap.size = gG at G J ⊢
  by_cases e1 : E = E'
  · have g1 : (E == E') = true := by simp [e1]
    replace e1 := Lib.hid e1
    by_cases e2 : D = D'
    · have g2 : (D == D') = true := by simp [e2]
      replace e2 := Lib.hid e2
      by_cases e3 : U = U'
      · have g3 : (U == U') = true := by simp [e3]
        replace e3 := Lib.hid e3
        have T := raddrs_any hA hA' b1 b3
        by_cases e4 : gs = gs'
        · rw [decide_eq_true e4] at T
          replace T := Lib.hid T
          replace e4 := Lib.hid e4
          have G_0 := G.at_ (v := .int .i64 E) 0 rfl
          have G_1 := G.at_ (v := .int .u32 D) 1 rfl
          have G_2 := G.at_ (v := .bool U) 2 rfl
          have G_3 := G.at_ (v := .slice P p1 p2) 3 rfl
          have G_4 := G.at_ (v := .slice Q q1 q2) 4 rfl
          have G_z := G.lt
          have J_0 := J.at_ (v := .int .i64 E') 0 rfl
          have J_1 := J.at_ (v := .int .u32 D') 1 rfl
          have J_2 := J.at_ (v := .bool U') 2 rfl
          have J_3 := J.at_ (v := .slice P' p1' p2') 3 rfl
          have J_4 := J.at_ (v := .slice Q' q1' q2') 4 rfl
          have J_z := J.lt
          go_wp2_with fail
          refine T.out.mono ?_
          rintro e ww ⟨rfl, K'⟩
          clear G_0 G_1 G_2 G_3 G_4 G_z
          clear J_0 J_1 J_2 J_3 J_4 J_z
          clear T
          replace G := G.below K'
          replace J := J.below K'
          replace hA := hA.below K'
          replace hE := hE.below K'
          replace hA' := hA'.below K'
          replace hE' := hE'.below K'
          replace K := Below.then_ K K'
          clear K'
          have T := Lib.hid (rerrs_any hE hE' b2 b4)
          have G_0 := G.at_ (v := .int .i64 E) 0 rfl
          have G_1 := G.at_ (v := .int .u32 D) 1 rfl
          have G_2 := G.at_ (v := .bool U) 2 rfl
          have G_3 := G.at_ (v := .slice P p1 p2) 3 rfl
          have G_4 := G.at_ (v := .slice Q q1 q2) 4 rfl
          have G_z := G.lt
          have J_0 := J.at_ (v := .int .i64 E') 0 rfl
          have J_1 := J.at_ (v := .int .u32 D') 1 rfl
          have J_2 := J.at_ (v := .bool U') 2 rfl
          have J_3 := J.at_ (v := .slice P' p1' p2') 3 rfl
          have J_4 := J.at_ (v := .slice Q' q1' q2') 4 rfl
          have J_z := J.lt
          go_wp2_with fail
          refine T.out.mono ?_
          rintro e w5 ⟨rfl, K'⟩
          go_wp2
          go_ret
          exact ⟨ret_bool (by simp [e1.out, e2.out, e3.out, e4.out]), Below.then_ K K'⟩
        · rw [decide_eq_false e4] at T
          replace T := Lib.hid T
          replace e4 := Lib.hid e4
          have G_0 := G.at_ (v := .int .i64 E) 0 rfl
          have G_1 := G.at_ (v := .int .u32 D) 1 rfl
          have G_2 := G.at_ (v := .bool U) 2 rfl
          have G_3 := G.at_ (v := .slice P p1 p2) 3 rfl
          have G_4 := G.at_ (v := .slice Q q1 q2) 4 rfl
          have G_z := G.lt
          have J_0 := J.at_ (v := .int .i64 E') 0 rfl
          have J_1 := J.at_ (v := .int .u32 D') 1 rfl
          have J_2 := J.at_ (v := .bool U') 2 rfl
          have J_3 := J.at_ (v := .slice P' p1' p2') 3 rfl
          have J_4 := J.at_ (v := .slice Q' q1' q2') 4 rfl
          have J_z := J.lt
          go_wp2_with fail
          refine T.out.mono ?_
          rintro e w5 ⟨rfl, K'⟩
          go_wp2
          go_ret
          exact ⟨ret_bool (by simp [e4.out]), Below.then_ K K'⟩
      · have g3 : (U == U') = false := by simp [e3]
        replace e3 := Lib.hid e3
        have G_0 := G.at_ (v := .int .i64 E) 0 rfl
        have G_1 := G.at_ (v := .int .u32 D) 1 rfl
        have G_2 := G.at_ (v := .bool U) 2 rfl
        have G_3 := G.at_ (v := .slice P p1 p2) 3 rfl
        have G_4 := G.at_ (v := .slice Q q1 q2) 4 rfl
        have G_z := G.lt
        have J_0 := J.at_ (v := .int .i64 E') 0 rfl
        have J_1 := J.at_ (v := .int .u32 D') 1 rfl
        have J_2 := J.at_ (v := .bool U') 2 rfl
        have J_3 := J.at_ (v := .slice P' p1' p2') 3 rfl
        have J_4 := J.at_ (v := .slice Q' q1' q2') 4 rfl
        have J_z := J.lt
        go_wp2
        go_ret
        exact ⟨ret_bool (by simp [e3.out]), K⟩
    · have g2 : (D == D') = false := by simp [e2]
      replace e2 := Lib.hid e2
      have G_0 := G.at_ (v := .int .i64 E) 0 rfl
      have G_1 := G.at_ (v := .int .u32 D) 1 rfl
      have G_2 := G.at_ (v := .bool U) 2 rfl
      have G_3 := G.at_ (v := .slice P p1 p2) 3 rfl
      have G_4 := G.at_ (v := .slice Q q1 q2) 4 rfl
      have G_z := G.lt
      have J_0 := J.at_ (v := .int .i64 E') 0 rfl
      have J_1 := J.at_ (v := .int .u32 D') 1 rfl
      have J_2 := J.at_ (v := .bool U') 2 rfl
      have J_3 := J.at_ (v := .slice P' p1' p2') 3 rfl
      have J_4 := J.at_ (v := .slice Q' q1' q2') 4 rfl
      have J_z := J.lt
      go_wp2
      go_ret
      exact ⟨ret_bool (by simp [e2.out]), K⟩
  · have g1 : (E == E') = false := by simp [e1]
    replace e1 := Lib.hid e1
    have G_0 := G.at_ (v := .int .i64 E) 0 rfl
    have G_1 := G.at_ (v := .int .u32 D) 1 rfl
    have G_2 := G.at_ (v := .bool U) 2 rfl
    have G_3 := G.at_ (v := .slice P p1 p2) 3 rfl
    have G_4 := G.at_ (v := .slice Q q1 q2) 4 rfl
    have G_z := G.lt
    have J_0 := J.at_ (v := .int .i64 E') 0 rfl
    have J_1 := J.at_ (v := .int .u32 D') 1 rfl
    have J_2 := J.at_ (v := .bool U') 2 rfl
    have J_3 := J.at_ (v := .slice P' p1' p2') 3 rfl
    have J_4 := J.at_ (v := .slice Q' q1' q2') 4 rfl
    have J_z := J.lt
    go_wp2
    go_ret
    exact ⟨ret_bool (by simp [e1.out]), K⟩
end
section
variable {w : World} {lo lo2 lo3 lo4 p1 p2 q1 q2 p1' p2' q1' q2' : Nat} {x y : An} {P Q P' Q' : Option Addr}
theorem same_any (hA : IS .u32 lo w P p1 p2 x.2.2.2.1) (hE : IS .i64 lo2 w Q q1 q2 x.2.2.2.2) (hA' : IS .u32 lo3 w P' p1' p2' y.2.2.2.1) (hE' : IS .i64 lo4 w Q' q1' q2' y.2.2.2.2) (b1 : p1 ≤ 65536) (b2 : q1 ≤ 65536) (b3 : p1' ≤ 65536) (b4 : q1' ≤ 65536) :
    Calls Tryd.prog 19 #[.agg #[.int .i64 x.1, .int .u32 x.2.1, .bool x.2.2.1, .slice P p1 p2, .slice Q q1 q2], .agg #[.int .i64 y.1, .int .u32 y.2.1, .bool y.2.2.1, .slice P' p1' p2', .slice Q' q1' q2']] w (RetBo (decide (x = y)) w) := by
  have T := same5 (E := x.1) (D := x.2.1) (U := x.2.2.1) (E' := y.1) (D' := y.2.1) (U' := y.2.2.1) hA hE hA' hE' b1 b2 b3 b4
  rwa [show decide (x.1 = y.1 ∧ x.2.1 = y.2.1 ∧ x.2.2.1 = y.2.2.1 ∧ x.2.2.2.1 = y.2.2.2.1 ∧ x.2.2.2.2 = y.2.2.2.2) = decide (x = y) from by rw [decide_eq_decide]; exact (an_iff x y).symm] at T
theorem same_is {b : Bool} (hA : IS .u32 lo w P p1 p2 x.2.2.2.1) (hE : IS .i64 lo2 w Q q1 q2 x.2.2.2.2) (hA' : IS .u32 lo3 w P' p1' p2' y.2.2.2.1) (hE' : IS .i64 lo4 w Q' q1' q2' y.2.2.2.2) (b1 : p1 ≤ 65536) (b2 : q1 ≤ 65536) (b3 : p1' ≤ 65536) (b4 : q1' ≤ 65536) (hb : decide (x = y) = b) :
    Calls Tryd.prog 19 #[.agg #[.int .i64 x.1, .int .u32 x.2.1, .bool x.2.2.1, .slice P p1 p2, .slice Q q1 q2], .agg #[.int .i64 y.1, .int .u32 y.2.1, .bool y.2.2.1, .slice P' p1' p2', .slice Q' q1' q2']] w (RetBo b w) := by
  subst hb; exact same_any hA hE hA' hE' b1 b2 b3 b4
theorem answers_any (hA : IS .u32 lo w P p1 p2 x.2.2.2.1) (hE : IS .i64 lo2 w Q q1 q2 x.2.2.2.2) (hA' : IS .u32 lo3 w P' p1' p2' y.2.2.2.1) (hE' : IS .i64 lo4 w Q' q1' q2' y.2.2.2.2) (b1 : p1 ≤ 65536) (b2 : q1 ≤ 65536) (b3 : p1' ≤ 65536) (b4 : q1' ≤ 65536) :
    Calls Tryd.prog 18 #[.agg #[.int .i64 x.1, .int .u32 x.2.1, .bool x.2.2.1, .slice P p1 p2, .slice Q q1 q2], .agg #[.int .i64 y.1, .int .u32 y.2.1, .bool y.2.2.1, .slice P' p1' p2', .slice Q' q1' q2']] w (RetBo (decide (x = y)) w) := by
  have T := answers5 (E := x.1) (D := x.2.1) (U := x.2.2.1) (E' := y.1) (D' := y.2.1) (U' := y.2.2.1) hA hE hA' hE' b1 b2 b3 b4
  rwa [show decide (x.1 = y.1 ∧ x.2.1 = y.2.1 ∧ x.2.2.1 = y.2.2.1 ∧ x.2.2.2.1 = y.2.2.2.1 ∧ x.2.2.2.2 = y.2.2.2.2) = decide (x = y) from by rw [decide_eq_decide]; exact (an_iff x y).symm] at T
theorem answers_is {b : Bool} (hA : IS .u32 lo w P p1 p2 x.2.2.2.1) (hE : IS .i64 lo2 w Q q1 q2 x.2.2.2.2) (hA' : IS .u32 lo3 w P' p1' p2' y.2.2.2.1) (hE' : IS .i64 lo4 w Q' q1' q2' y.2.2.2.2) (b1 : p1 ≤ 65536) (b2 : q1 ≤ 65536) (b3 : p1' ≤ 65536) (b4 : q1' ≤ 65536) (hb : decide (x = y) = b) :
    Calls Tryd.prog 18 #[.agg #[.int .i64 x.1, .int .u32 x.2.1, .bool x.2.2.1, .slice P p1 p2, .slice Q q1 q2], .agg #[.int .i64 y.1, .int .u32 y.2.1, .bool y.2.2.1, .slice P' p1' p2', .slice Q' q1' q2']] w (RetBo b w) := by
  subst hb; exact answers_any hA hE hA' hE' b1 b2 b3 b4
set_option maxRecDepth 100000 in
set_option maxHeartbeats 4000000 in
theorem only_any (hA : IS .u32 lo w P p1 p2 x.2.2.2.1) (hE : IS .i64 lo2 w Q q1 q2 x.2.2.2.2) (b1 : p1 ≤ 65536) (b2 : q1 ≤ 65536) (v : Int) :
    Calls Tryd.prog 33 #[.agg #[.int .i64 x.1, .int .u32 x.2.1, .bool x.2.2.1, .slice P p1 p2, .slice Q q1 q2], .int .i64 v] w (RetBo (decide (x = an0 v)) w) := by
  have K := Below.refl w.heap.size w
  go_enter Tryd.func33, Tryd.ntmps33
  go_upto_region 1 with (fail)
  replace hA := hA.below (below_alloc _ (.cells #[.int .i64 x.1, .int .u32 x.2.1, .bool x.2.2.1, .slice P p1 p2, .slice Q q1 q2] 34))
  replace hE := hE.below (below_alloc _ (.cells #[.int .i64 x.1, .int .u32 x.2.1, .bool x.2.2.1, .slice P p1 p2, .slice Q q1 q2] 34))
  replace K := Below.then_ K (below_alloc _ (.cells #[.int .i64 x.1, .int .u32 x.2.1, .bool x.2.2.1, .slice P p1 p2, .slice Q q1 q2] 34))
  have G := Bk.new (w) #[.int .i64 x.1, .int .u32 x.2.1, .bool x.2.2.1, .slice P p1 p2, .slice Q q1 q2] 34
  try simp only [World.size_alloc] at G
  generalize (w).alloc (.cells #[.int .i64 x.1, .int .u32 x.2.1, .bool x.2.2.1, .slice P p1 p2, .slice Q q1 q2] 34) = w1 at G hA hE K ⊢
  generalize w.heap.size = gG at G ⊢
  have T := Lib.hid (answers_any (x := x) (y := an0 v) hA hE (IS.none_ .u32 0 _) (IS.none_ .i64 0 _) b1 b2 (by omega) (by omega))
  have G_0 := G.at_ (v := .int .i64 x.1) 0 rfl
  have G_1 := G.at_ (v := .int .u32 x.2.1) 1 rfl
  have G_2 := G.at_ (v := .bool x.2.2.1) 2 rfl
  have G_3 := G.at_ (v := .slice P p1 p2) 3 rfl
  have G_4 := G.at_ (v := .slice Q q1 q2) 4 rfl
  have G_z := G.lt
  go_wp2_with fail
  refine T.out.mono ?_
  rintro e w5 ⟨rfl, K'⟩
  go_wp2
  go_ret
  exact ⟨rfl, Below.then_ K K'⟩
theorem only_is {b : Bool} {v : Int} (hA : IS .u32 lo w P p1 p2 x.2.2.2.1) (hE : IS .i64 lo2 w Q q1 q2 x.2.2.2.2) (b1 : p1 ≤ 65536) (b2 : q1 ≤ 65536) (hb : decide (x = an0 v) = b) :
    Calls Tryd.prog 33 #[.agg #[.int .i64 x.1, .int .u32 x.2.1, .bool x.2.2.1, .slice P p1 p2, .slice Q q1 q2], .int .i64 v] w (RetBo b w) := by
  subst hb; exact only_any hA hE b1 b2 v
set_option maxRecDepth 100000 in
set_option maxHeartbeats 4000000 in
theorem rfew_yes {E D : Int} {U : Bool} (h1 : p1 ≤ 300) (h2 : q1 ≤ 300) :
    Calls Tryd.prog 12 #[.agg #[.int .i64 E, .int .u32 D, .bool U, .slice P p1 p2, .slice Q q1 q2]] w (RetBo true w) := by
  have K := Below.refl w.heap.size w
  go_enter Tryd.func12, Tryd.ntmps12
  go_upto_region 1 with (fail)
  replace K := Below.then_ K (below_alloc _ (.cells #[.int .i64 E, .int .u32 D, .bool U, .slice P p1 p2, .slice Q q1 q2] 34))
  have G := Bk.new (w) #[.int .i64 E, .int .u32 D, .bool U, .slice P p1 p2, .slice Q q1 q2] 34
  try simp only [World.size_alloc] at G
  generalize (w).alloc (.cells #[.int .i64 E, .int .u32 D, .bool U, .slice P p1 p2, .slice Q q1 q2] 34) = w1 at G K ⊢
  generalize w.heap.size = gG at G ⊢
  have G_0 := G.at_ (v := .int .i64 E) 0 rfl
  have G_1 := G.at_ (v := .int .u32 D) 1 rfl
  have G_2 := G.at_ (v := .bool U) 2 rfl
  have G_3 := G.at_ (v := .slice P p1 p2) 3 rfl
  have G_4 := G.at_ (v := .slice Q q1 q2) 4 rfl
  have G_z := G.lt
  have g0 : decide ((p1 : Int) ≤ 300) = true := by simp; omega
  have g1 : decide ((q1 : Int) ≤ 300) = true := by simp; omega
  go_wp2
  go_ret
  exact ⟨rfl, K⟩
set_option maxRecDepth 100000 in
set_option maxHeartbeats 4000000 in
theorem rfew_no1 {E D : Int} {U : Bool} (h1 : 300 < p1) :
    Calls Tryd.prog 12 #[.agg #[.int .i64 E, .int .u32 D, .bool U, .slice P p1 p2, .slice Q q1 q2]] w (RetBo false w) := by
  have K := Below.refl w.heap.size w
  go_enter Tryd.func12, Tryd.ntmps12
  go_upto_region 1 with (fail)
  replace K := Below.then_ K (below_alloc _ (.cells #[.int .i64 E, .int .u32 D, .bool U, .slice P p1 p2, .slice Q q1 q2] 34))
  have G := Bk.new (w) #[.int .i64 E, .int .u32 D, .bool U, .slice P p1 p2, .slice Q q1 q2] 34
  try simp only [World.size_alloc] at G
  generalize (w).alloc (.cells #[.int .i64 E, .int .u32 D, .bool U, .slice P p1 p2, .slice Q q1 q2] 34) = w1 at G K ⊢
  generalize w.heap.size = gG at G ⊢
  have G_0 := G.at_ (v := .int .i64 E) 0 rfl
  have G_1 := G.at_ (v := .int .u32 D) 1 rfl
  have G_2 := G.at_ (v := .bool U) 2 rfl
  have G_3 := G.at_ (v := .slice P p1 p2) 3 rfl
  have G_4 := G.at_ (v := .slice Q q1 q2) 4 rfl
  have G_z := G.lt
  have g0 : decide ((p1 : Int) ≤ 300) = false := by simp; omega
  go_wp2
  go_ret
  exact ⟨rfl, K⟩
set_option maxRecDepth 100000 in
set_option maxHeartbeats 4000000 in
theorem rfew_no2 {E D : Int} {U : Bool} (h1 : p1 ≤ 300) (h2 : 300 < q1) :
    Calls Tryd.prog 12 #[.agg #[.int .i64 E, .int .u32 D, .bool U, .slice P p1 p2, .slice Q q1 q2]] w (RetBo false w) := by
  have K := Below.refl w.heap.size w
  go_enter Tryd.func12, Tryd.ntmps12
  go_upto_region 1 with (fail)
  replace K := Below.then_ K (below_alloc _ (.cells #[.int .i64 E, .int .u32 D, .bool U, .slice P p1 p2, .slice Q q1 q2] 34))
  have G := Bk.new (w) #[.int .i64 E, .int .u32 D, .bool U, .slice P p1 p2, .slice Q q1 q2] 34
  try simp only [World.size_alloc] at G
  generalize (w).alloc (.cells #[.int .i64 E, .int .u32 D, .bool U, .slice P p1 p2, .slice Q q1 q2] 34) = w1 at G K ⊢
  generalize w.heap.size = gG at G ⊢
  have G_0 := G.at_ (v := .int .i64 E) 0 rfl
  have G_1 := G.at_ (v := .int .u32 D) 1 rfl
  have G_2 := G.at_ (v := .bool U) 2 rfl
  have G_3 := G.at_ (v := .slice P p1 p2) 3 rfl
  have G_4 := G.at_ (v := .slice Q q1 q2) 4 rfl
  have G_z := G.lt
  have g0 : decide ((p1 : Int) ≤ 300) = true := by simp; omega
  have g1 : decide ((q1 : Int) ≤ 300) = false := by simp; omega
  go_wp2
  go_ret
  exact ⟨rfl, K⟩
end
section
variable {w : World} {lo lo2 a M m d : Nat} {p sh wo qu tr : Int} {A B : Option Addr} {n c : Nat} {zs xs : List Int}
set_option maxRecDepth 100000 in
set_option maxHeartbeats 4000000 in
theorem fits11_any (ha : a < 4294967296) (h0 : IS .i64 lo w A n c zs) (hs0 : IS .i64 lo2 w B m d xs) :
    Calls Tryd.prog 10 #[.agg #[.int .u32 a, .int .i64 p, .slice A n c, .int .i64 sh, .int .i64 wo, .int .i64 qu, .int .i64 tr], .slice B m d] w (RetW (∃ M, Cf a p n zs M ∧ M ≤ 256 ∧ m ≤ 300 ∧ mayR M zs 0 xs = true) w) := by
  have K := Below.refl w.heap.size w
  have h := h0
  have hs := hs0
  go_enter Tryd.func10, Tryd.ntmps10
  go_upto_region 1 with (fail)
  replace h := h.below (below_alloc _ (.cells #[.int .u32 a, .int .i64 p, .slice A n c, .int .i64 sh, .int .i64 wo, .int .i64 qu, .int .i64 tr] 27))
  replace hs := hs.below (below_alloc _ (.cells #[.int .u32 a, .int .i64 p, .slice A n c, .int .i64 sh, .int .i64 wo, .int .i64 qu, .int .i64 tr] 27))
  replace K := Below.then_ K (below_alloc _ (.cells #[.int .u32 a, .int .i64 p, .slice A n c, .int .i64 sh, .int .i64 wo, .int .i64 qu, .int .i64 tr] 27))
  have H := Bk.new (w) #[.int .u32 a, .int .i64 p, .slice A n c, .int .i64 sh, .int .i64 wo, .int .i64 qu, .int .i64 tr] 27
  try simp only [World.size_alloc] at H
  generalize (w).alloc (.cells #[.int .u32 a, .int .i64 p, .slice A n c, .int .i64 sh, .int .i64 wo, .int .i64 qu, .int .i64 tr] 27) = w1 at H h hs K ⊢
  generalize w.heap.size = gH at H ⊢
  have H_0 := H.at_ (v := .int .u32 a) 0 rfl
  have H_1 := H.at_ (v := .int .i64 p) 1 rfl
  have H_2 := H.at_ (v := .slice A n c) 2 rfl
  have H_3 := H.at_ (v := .int .i64 sh) 3 rfl
  have H_4 := H.at_ (v := .int .i64 wo) 4 rfl
  have H_5 := H.at_ (v := .int .i64 qu) 5 rfl
  have H_6 := H.at_ (v := .int .i64 tr) 6 rfl
  have H_z := H.lt
  go_wp2_with fail
  refine (rmay5_any ha h).mono ?_
  rintro e w2 ⟨bo, rfl, hB, K'⟩
  clear H_0 H_1 H_2 H_3 H_4 H_5 H_6 H_z
  replace H := H.below K'
  replace h := h.below K'
  replace hs := hs.below K'
  replace K := Below.then_ K K'
  clear K'
  rcases bo with _ | _
  · clear hB
    go_wp2
    go_ret
    exact ⟨false, rfl, (fun e => by cases e), K⟩
  obtain ⟨M, hC⟩ := hB rfl
  clear hB
  have hM := hC.much
  have hMm := hM.most
  have hn := hC.few
  have H_0 := H.at_ (v := .int .u32 a) 0 rfl
  have H_1 := H.at_ (v := .int .i64 p) 1 rfl
  have H_2 := H.at_ (v := .slice A n c) 2 rfl
  have H_3 := H.at_ (v := .int .i64 sh) 3 rfl
  have H_4 := H.at_ (v := .int .i64 wo) 4 rfl
  have H_5 := H.at_ (v := .int .i64 qu) 5 rfl
  have H_6 := H.at_ (v := .int .i64 tr) 6 rfl
  have H_z := H.lt
  go_wp2_with fail
  refine (rmany_yes hM).mono ?_
  rintro e w3 ⟨rfl, K'⟩
  clear H_0 H_1 H_2 H_3 H_4 H_5 H_6 H_z
  replace H := H.below K'
  replace h := h.below K'
  replace hs := hs.below K'
  replace K := Below.then_ K K'
  clear K'
  by_cases h1 : M ≤ 256
  · have g1 : decide ((M : Int) ≤ 256) = true := by simp; omega
    by_cases h2 : m ≤ 300
    · have g2 : decide ((m : Int) ≤ 300) = true := by simp; omega
      have H_0 := H.at_ (v := .int .u32 a) 0 rfl
      have H_1 := H.at_ (v := .int .i64 p) 1 rfl
      have H_2 := H.at_ (v := .slice A n c) 2 rfl
      have H_3 := H.at_ (v := .int .i64 sh) 3 rfl
      have H_4 := H.at_ (v := .int .i64 wo) 4 rfl
      have H_5 := H.at_ (v := .int .i64 qu) 5 rfl
      have H_6 := H.at_ (v := .int .i64 tr) 6 rfl
      have H_z := H.lt
      go_wp2_with fail
      refine (rmay9_any hM h (by omega) hs (by omega)).mono ?_
      rintro e w4 ⟨rfl, K'⟩
      clear H_0 H_1 H_2 H_3 H_4 H_5 H_6 H_z
      replace H := H.below K'
      replace h := h.below K'
      replace hs := hs.below K'
      replace K := Below.then_ K K'
      clear K'
      go_wp2
      go_ret
      exact ⟨_, rfl, fun hb => ⟨M, hC, h1, h2, hb⟩, K⟩
    · have g2 : decide ((m : Int) ≤ 300) = false := by simp; omega
      go_wp2
      go_ret
      exact ⟨false, rfl, (fun e => by cases e), K⟩
  · have g1 : decide ((M : Int) ≤ 256) = false := by simp; omega
    go_wp2
    go_ret
    exact ⟨false, rfl, (fun e => by cases e), K⟩
end
end Go.Proofs.YtmakbmmnjbnfiaaDoor
