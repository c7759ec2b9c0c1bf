/-
  The walk of the law SpecWhole: for every configuration, list, request and number it answers true.
-/
import Derived.Test.YtmakbmmnjbnfiaaDoorSpecFacts
namespace Go.Proofs.YtmakbmmnjbnfiaaDoor.specWhole
open Go.RowKit
set_option linter.unusedVariables false
section
variable {w : World} {lo lo2 lo3 lo4 lo5 a m d q f X p1 p2 q1 q2 : Nat} {p sh wo qu tr k : Int} {A B C P Q : Option Addr} {n c : Nat} {zs xs ys : List Int} {x : An}
set_option maxRecDepth 100000 in
set_option maxHeartbeats 4000000 in
theorem main (hL0 : Laid w) (ha : a < 4294967296) (h0 : IS .i64 lo w A n c zs) (hs0 : IS .i64 lo2 w B m d xs) (hy0 : IS .u32 lo3 w C q f ys) (hX : X < 4294967296) (hw : W32 ys) {cu : Nat} (hcu : cu < 256) :
    Calls Tryd.prog 8 #[.agg #[.int .u32 (a : Int), .int .i64 p, .slice A n c, .int .i64 sh, .int .i64 wo, .int .i64 qu, .int .i64 tr], .slice B m d, .agg #[.int .i64 k, .int .u32 (X : Int), .slice C q f], .int .u8 (cu : Int)] w (RetBo true w) := by
  replace hw := Lib.hid hw
  have hL := hL0
  have h := h0
  have hs := hs0
  have hy := hy0
  have K := Below.refl w.heap.size w
  go_enter Tryd.func8, Tryd.ntmps8
  go_upto_region 1 with (fail)
  have KS := K.size
  replace hL := hL.below (below_alloc _ (.cells #[.int .u32 (a : Int), .int .i64 p, .slice A n c, .int .i64 sh, .int .i64 wo, .int .i64 qu, .int .i64 tr] 27))
  replace h := h.below (below_alloc _ (.cells #[.int .u32 (a : Int), .int .i64 p, .slice A n c, .int .i64 sh, .int .i64 wo, .int .i64 qu, .int .i64 tr] 27))
  replace hs := hs.below (below_alloc _ (.cells #[.int .u32 (a : Int), .int .i64 p, .slice A n c, .int .i64 sh, .int .i64 wo, .int .i64 qu, .int .i64 tr] 27))
  replace hy := hy.below (below_alloc _ (.cells #[.int .u32 (a : Int), .int .i64 p, .slice A n c, .int .i64 sh, .int .i64 wo, .int .i64 qu, .int .i64 tr] 27))
  replace K := Below.then_ K (below_alloc _ (.cells #[.int .u32 (a : Int), .int .i64 p, .slice A n c, .int .i64 sh, .int .i64 wo, .int .i64 qu, .int .i64 tr] 27))
  have H := Bk.new (w) #[.int .u32 (a : Int), .int .i64 p, .slice A n c, .int .i64 sh, .int .i64 wo, .int .i64 qu, .int .i64 tr] 27
  replace H := H.alloc (.cells #[.int .i64 k, .int .u32 (X : Int), .slice C q f] 30)
  replace hL := hL.below (below_alloc _ (.cells #[.int .i64 k, .int .u32 (X : Int), .slice C q f] 30))
  replace h := h.below (below_alloc _ (.cells #[.int .i64 k, .int .u32 (X : Int), .slice C q f] 30))
  replace hs := hs.below (below_alloc _ (.cells #[.int .i64 k, .int .u32 (X : Int), .slice C q f] 30))
  replace hy := hy.below (below_alloc _ (.cells #[.int .i64 k, .int .u32 (X : Int), .slice C q f] 30))
  replace K := Below.then_ K (below_alloc _ (.cells #[.int .i64 k, .int .u32 (X : Int), .slice C q f] 30))
  have G := Bk.new ((w).alloc (.cells #[.int .u32 (a : Int), .int .i64 p, .slice A n c, .int .i64 sh, .int .i64 wo, .int .i64 qu, .int .i64 tr] 27)) #[.int .i64 k, .int .u32 (X : Int), .slice C q f] 30
  try simp only [World.size_alloc] at H G
  generalize ((w).alloc (.cells #[.int .u32 (a : Int), .int .i64 p, .slice A n c, .int .i64 sh, .int .i64 wo, .int .i64 qu, .int .i64 tr] 27)).alloc (.cells #[.int .i64 k, .int .u32 (X : Int), .slice C q f] 30) = w1 at H G hL h hs hy K ⊢
  generalize hgG : w.heap.size + 1 = gG at H G ⊢
  generalize hgH : w.heap.size = gH at H G ⊢
  have H_b : w.heap.size ≤ gH := by omega
  have G_b : w.heap.size ≤ gG := by omega
  have ne_H_G : gH ≠ gG := by omega
  clear KS hgH hgG 
  go_wp2_with fail
  refine (awake_any _ hL).mono ?_
  rintro e w2 ⟨rfl, K'⟩
  replace H := H.below K'
  replace G := G.below K'
  replace hL := hL.below K'
  replace h := h.below K'
  replace hs := hs.below K'
  replace hy := hy.below K'
  replace K := Below.then_ K K'
  clear K'
  have H_0 := H.at_ (v := .int .u32 (a : Int)) 0 rfl
  have H_1 := H.at_ (v := .int .i64 p) 1 rfl
  have H_2 := H.at_ (v := .slice A n c) 2 rfl
  have H_3 := H.at_ (v := .int .i64 sh) 3 rfl
  have H_4 := H.at_ (v := .int .i64 wo) 4 rfl
  have H_5 := H.at_ (v := .int .i64 qu) 5 rfl
  have H_6 := H.at_ (v := .int .i64 tr) 6 rfl
  have H_z := H.lt
  go_wp2_with fail
  refine (fits11_any ha h hs).mono ?_
  rintro e w3 ⟨bo, rfl, hB_, K'⟩
  clear H_0 H_1 H_2 H_3 H_4 H_5 H_6 H_z
  replace H := H.below K'
  replace G := G.below K'
  replace hL := hL.below K'
  replace h := h.below K'
  replace hs := hs.below K'
  replace hy := hy.below K'
  replace K := Below.then_ K K'
  clear K'
  rcases bo with _ | _
  · clear hB_
    go_wp2_with fail
    refine (awake_any _ hL).mono ?_
    rintro e w4 ⟨rfl, K'⟩
    replace H := H.below K'
    replace G := G.below K'
    replace hL := hL.below K'
    replace h := h.below K'
    replace hs := hs.below K'
    replace hy := hy.below K'
    replace K := Below.then_ K K'
    clear K'
    go_wp2
    go_ret
    exact ⟨rfl, K⟩
  obtain ⟨M, hC, hM2, hm3, hx_⟩ := hB_ rfl
  clear hB_
  have hM := hC.much
  have hMm := hM.most
  have hn : n ≤ 65536 := by have := hC.few; omega
  have hris := Lib.hid hC.ris
  have hx := Lib.hid hx_
  have hr := Lib.hid (mayR_iff.1 hx_).1
  clear hx_ hC
  have hm : m ≤ 60000 := by omega
  have G_0 := G.at_ (v := .int .i64 k) 0 rfl
  have G_1 := G.at_ (v := .int .u32 (X : Int)) 1 rfl
  have G_2 := G.at_ (v := .slice C q f) 2 rfl
  have G_z := G.lt
  rcases Nat.lt_or_ge 100 q with hfG | hfG
  · go_wp2_with fail
    refine (few_no hy (Nat.not_le.2 hfG)).mono ?_
    rintro e w4 ⟨rfl, K'⟩
    replace H := H.below K'
    replace G := G.below K'
    replace hL := hL.below K'
    replace h := h.below K'
    replace hs := hs.below K'
    replace hy := hy.below K'
    replace K := Below.then_ K K'
    clear K'
    clear G_0 G_1 G_2 G_z
    go_wp2_with fail
    refine (awake_any _ hL).mono ?_
    rintro e w5 ⟨rfl, K'⟩
    replace H := H.below K'
    replace G := G.below K'
    replace hL := hL.below K'
    replace h := h.below K'
    replace hs := hs.below K'
    replace hy := hy.below K'
    replace K := Below.then_ K K'
    clear K'
    go_wp2
    go_ret
    exact ⟨rfl, K⟩
  go_wp2_with fail
  refine (few_yes hy hfG).mono ?_
  rintro e w4 ⟨rfl, K'⟩
  replace H := H.below K'
  replace G := G.below K'
  replace hL := hL.below K'
  replace h := h.below K'
  replace hs := hs.below K'
  replace hy := hy.below K'
  replace K := Below.then_ K K'
  clear K'
  clear G_0 G_1 G_2 G_z
  have hq : q ≤ 60000 := by omega
  have T1 := legal_any (k := k) (x := an0 10) (sh := sh) (wo := wo) (qu := qu) (tr := tr) hL ha hM h hn hs hm hx.out hX hy hq hw.out (IS.none_ .u32 0 _) (IS.none_ .i64 0 _) (by omega) (by omega) (by decide)
  rw [leg_busy (.inl rfl)] at T1
  replace T1 := Lib.hid T1
  have H_0 := H.at_ (v := .int .u32 (a : Int)) 0 rfl
  have H_1 := H.at_ (v := .int .i64 p) 1 rfl
  have H_2 := H.at_ (v := .slice A n c) 2 rfl
  have H_3 := H.at_ (v := .int .i64 sh) 3 rfl
  have H_4 := H.at_ (v := .int .i64 wo) 4 rfl
  have H_5 := H.at_ (v := .int .i64 qu) 5 rfl
  have H_6 := H.at_ (v := .int .i64 tr) 6 rfl
  have H_z := H.lt
  have G_0 := G.at_ (v := .int .i64 k) 0 rfl
  have G_1 := G.at_ (v := .int .u32 (X : Int)) 1 rfl
  have G_2 := G.at_ (v := .slice C q f) 2 rfl
  have G_z := G.lt
  go_wp2_with fail
  refine (T1.out).mono ?_
  clear H_0 H_1 H_2 H_3 H_4 H_5 H_6 H_z
  clear G_0 G_1 G_2 G_z
  rintro e w5 ⟨N1A, N1n, N1c, rfl, N1, hav, K'⟩
  clear hav
  replace H := H.below K'
  replace G := G.below K'
  replace hL := hL.below K'
  replace h := h.below K'
  replace hs := hs.below K'
  replace hy := hy.below K'
  replace K := Below.then_ K K'
  clear K'
  clear T1
  have T1 := legal_any (k := k) (x := an0 12) (sh := sh) (wo := wo) (qu := qu) (tr := tr) hL ha hM h hn hs hm hx.out hX hy hq hw.out (IS.none_ .u32 0 _) (IS.none_ .i64 0 _) (by omega) (by omega) (by decide)
  rw [leg_busy (.inr rfl)] at T1
  replace T1 := Lib.hid T1
  have H_0 := H.at_ (v := .int .u32 (a : Int)) 0 rfl
  have H_1 := H.at_ (v := .int .i64 p) 1 rfl
  have H_2 := H.at_ (v := .slice A n c) 2 rfl
  have H_3 := H.at_ (v := .int .i64 sh) 3 rfl
  have H_4 := H.at_ (v := .int .i64 wo) 4 rfl
  have H_5 := H.at_ (v := .int .i64 qu) 5 rfl
  have H_6 := H.at_ (v := .int .i64 tr) 6 rfl
  have H_z := H.lt
  have G_0 := G.at_ (v := .int .i64 k) 0 rfl
  have G_1 := G.at_ (v := .int .u32 (X : Int)) 1 rfl
  have G_2 := G.at_ (v := .slice C q f) 2 rfl
  have G_z := G.lt
  go_wp2_with fail
  refine (T1.out).mono ?_
  clear H_0 H_1 H_2 H_3 H_4 H_5 H_6 H_z
  clear G_0 G_1 G_2 G_z
  rintro e w6 ⟨N2A, N2n, N2c, rfl, N2, hav, K'⟩
  clear hav
  replace H := H.below K'
  replace G := G.below K'
  replace hL := hL.below K'
  replace h := h.below K'
  replace hs := hs.below K'
  replace hy := hy.below K'
  replace N1 := N1.below K'
  replace K := Below.then_ K K'
  clear K'
  clear T1
  have T1 := legal_any (k := k) (x := an0 11) (sh := sh) (wo := wo) (qu := qu) (tr := tr) hL ha hM h hn hs hm hx.out hX hy hq hw.out (IS.none_ .u32 0 _) (IS.none_ .i64 0 _) (by omega) (by omega) (by decide)
  rw [leg_retry] at T1
  replace T1 := Lib.hid T1
  have H_0 := H.at_ (v := .int .u32 (a : Int)) 0 rfl
  have H_1 := H.at_ (v := .int .i64 p) 1 rfl
  have H_2 := H.at_ (v := .slice A n c) 2 rfl
  have H_3 := H.at_ (v := .int .i64 sh) 3 rfl
  have H_4 := H.at_ (v := .int .i64 wo) 4 rfl
  have H_5 := H.at_ (v := .int .i64 qu) 5 rfl
  have H_6 := H.at_ (v := .int .i64 tr) 6 rfl
  have H_z := H.lt
  have G_0 := G.at_ (v := .int .i64 k) 0 rfl
  have G_1 := G.at_ (v := .int .u32 (X : Int)) 1 rfl
  have G_2 := G.at_ (v := .slice C q f) 2 rfl
  have G_z := G.lt
  go_wp2_with fail
  refine (T1.out).mono ?_
  clear H_0 H_1 H_2 H_3 H_4 H_5 H_6 H_z
  clear G_0 G_1 G_2 G_z
  rintro e w7 ⟨N3A, N3n, N3c, rfl, N3, hav, K'⟩
  clear hav N3
  replace H := H.below K'
  replace G := G.below K'
  replace hL := hL.below K'
  replace h := h.below K'
  replace hs := hs.below K'
  replace hy := hy.below K'
  replace N1 := N1.below K'
  replace N2 := N2.below K'
  replace K := Below.then_ K K'
  clear K'
  clear T1
  obtain ⟨v, hv⟩ : ∃ v : Nat, cu % 12 = v := ⟨_, rfl⟩
  have hv2 : v < 12 := by omega
  have t1 : (cu : Int).tmod 12 = (v : Int) := by rw [Int.tmod_eq_emod_of_nonneg (by omega)]; omega
  have t0 : (cu : Int) % 12 = (v : Int) := by omega
  have t2 : IntKind.u8.wrap (v : Int) = (v : Int) := by simp [IntKind.wrap, IntKind.bits, IntKind.signed]; omega
  have t3 : IntKind.u8.wrap (1 + (v : Int)) = ((v + 1 : Nat) : Int) := by simp [IntKind.wrap, IntKind.bits, IntKind.signed]; omega
  obtain ⟨V, hV⟩ : ∃ V : Nat, v + 1 = V := ⟨_, rfl⟩
  rw [hV] at t3
  have t4 : IntKind.i64.wrap (V : Int) = (V : Int) := IntWalk.i64_in _ (by omega)
  have hV0 : (V : Int) ≠ 0 := by omega
  replace hV0 := Lib.hid hV0
  clear hV hv hv2
  have T1 := legal_any (k := k) (x := ((V : Int), 1, false, [], [])) (sh := sh) (wo := wo) (qu := qu) (tr := tr) hL ha hM h hn hs hm hx.out hX hy hq hw.out (IS.none_ .u32 0 _) (IS.none_ .i64 0 _) (by omega) (by omega) (show (0 : Int) ≤ 1 ∧ (1 : Int) < 4294967296 by omega)
  rw [leg_odd (x := ((V : Int), 1, false, [], [])) hr.out hV0.out (by intro g; exact absurd (congrArg (fun y => y.2.1) g) (by show ¬ (1 : Int) = 0; omega))] at T1
  replace T1 := Lib.hid T1
  have H_0 := H.at_ (v := .int .u32 (a : Int)) 0 rfl
  have H_1 := H.at_ (v := .int .i64 p) 1 rfl
  have H_2 := H.at_ (v := .slice A n c) 2 rfl
  have H_3 := H.at_ (v := .int .i64 sh) 3 rfl
  have H_4 := H.at_ (v := .int .i64 wo) 4 rfl
  have H_5 := H.at_ (v := .int .i64 qu) 5 rfl
  have H_6 := H.at_ (v := .int .i64 tr) 6 rfl
  have H_z := H.lt
  have G_0 := G.at_ (v := .int .i64 k) 0 rfl
  have G_1 := G.at_ (v := .int .u32 (X : Int)) 1 rfl
  have G_2 := G.at_ (v := .slice C q f) 2 rfl
  have G_z := G.lt
  go_wp2_with fail
  refine (T1.out).mono ?_
  clear H_0 H_1 H_2 H_3 H_4 H_5 H_6 H_z
  clear G_0 G_1 G_2 G_z
  rintro e w8 ⟨N4A, N4n, N4c, rfl, N4, hav, K'⟩
  clear hav N4
  replace H := H.below K'
  replace G := G.below K'
  replace hL := hL.below K'
  replace h := h.below K'
  replace hs := hs.below K'
  replace hy := hy.below K'
  replace N1 := N1.below K'
  replace N2 := N2.below K'
  replace K := Below.then_ K K'
  clear K'
  clear T1
  have H_0 := H.at_ (v := .int .u32 (a : Int)) 0 rfl
  have H_1 := H.at_ (v := .int .i64 p) 1 rfl
  have H_2 := H.at_ (v := .slice A n c) 2 rfl
  have H_3 := H.at_ (v := .int .i64 sh) 3 rfl
  have H_4 := H.at_ (v := .int .i64 wo) 4 rfl
  have H_5 := H.at_ (v := .int .i64 qu) 5 rfl
  have H_6 := H.at_ (v := .int .i64 tr) 6 rfl
  have H_z := H.lt
  have G_0 := G.at_ (v := .int .i64 k) 0 rfl
  have G_1 := G.at_ (v := .int .u32 (X : Int)) 1 rfl
  have G_2 := G.at_ (v := .slice C q f) 2 rfl
  have G_z := G.lt
  go_wp2_with fail
  have KB := below_alloc w8 (.cells #[.int .i64 0] 31)
  have B0 := IS.lit (k := .i64) (n := 1) [0] (Bk.new w8 #[.int .i64 0] 31) (by rfl) (by omega)
  have T1 := legal_any (k := k) (x := ((V : Int), 0, false, [], [0])) (sh := sh) (wo := wo) (qu := qu) (tr := tr) (hL.below KB) ha hM (h.below KB) hn (hs.below KB) hm hx.out hX (hy.below KB) hq hw.out (IS.none_ .u32 0 _) B0 (by omega) (by omega) (show (0 : Int) ≤ 0 ∧ (0 : Int) < 4294967296 by omega)
  rw [leg_odd (x := ((V : Int), 0, false, [], [0])) hr.out hV0.out (by intro g; exact absurd (congrArg (fun y => y.2.2.2.2) g) (by show ¬ ([0] : List Int) = []; simp))] at T1
  replace T1 := Lib.hid T1
  refine T1.out.mono ?_
  rintro e w9 ⟨N5A, N5n, N5c, rfl, N5, hav, K'⟩
  clear hav N5 T1 B0
  clear H_0 H_1 H_2 H_3 H_4 H_5 H_6 H_z
  clear G_0 G_1 G_2 G_z
  replace K' := Below.then_ KB K'
  clear KB
  replace H := H.below K'
  replace G := G.below K'
  replace hL := hL.below K'
  replace h := h.below K'
  replace hs := hs.below K'
  replace hy := hy.below K'
  replace N1 := N1.below K'
  replace N2 := N2.below K'
  replace K := Below.then_ K K'
  clear K'
  clear t1 t2 t3 t4 t0
  obtain ⟨b, hb⟩ : ∃ b, (k == 6) = b := ⟨_, rfl⟩
  have eb : ((k == 6) == (k == 6)) = true := by simp
  have c1 : N1n ≤ 65536 := by have h1 := N1.len; have h2 := hs.len; omega
  have c2 : N2n ≤ 65536 := by have h1 := N2.len; have h2 := hs.len; omega
  have G_0 := G.at_ (v := .int .i64 k) 0 rfl
  have G_1 := G.at_ (v := .int .u32 (X : Int)) 1 rfl
  have G_2 := G.at_ (v := .slice C q f) 2 rfl
  have G_z := G.lt
  go_wp2_with fail
  refine (ints_same N1 hs c1).mono ?_
  rintro e w10 ⟨rfl, K'⟩
  clear G_0 G_1 G_2 G_z
  replace H := H.below K'
  replace G := G.below K'
  replace hL := hL.below K'
  replace h := h.below K'
  replace hs := hs.below K'
  replace hy := hy.below K'
  replace N1 := N1.below K'
  replace N2 := N2.below K'
  replace K := Below.then_ K K'
  clear K'
  have G_0 := G.at_ (v := .int .i64 k) 0 rfl
  have G_1 := G.at_ (v := .int .u32 (X : Int)) 1 rfl
  have G_2 := G.at_ (v := .slice C q f) 2 rfl
  have G_z := G.lt
  go_wp2_with fail
  refine (ints_same N2 hs c2).mono ?_
  rintro e w11 ⟨rfl, K'⟩
  clear G_0 G_1 G_2 G_z
  replace H := H.below K'
  replace G := G.below K'
  replace hL := hL.below K'
  replace h := h.below K'
  replace hs := hs.below K'
  replace hy := hy.below K'
  replace N1 := N1.below K'
  replace N2 := N2.below K'
  replace K := Below.then_ K K'
  clear K'
  have G_0 := G.at_ (v := .int .i64 k) 0 rfl
  have G_1 := G.at_ (v := .int .u32 (X : Int)) 1 rfl
  have G_2 := G.at_ (v := .slice C q f) 2 rfl
  have G_z := G.lt
  go_wp2
  go_ret
  exact ⟨rfl, K⟩
theorem walk (a p : Int) (A : Option Addr) (n c : Nat) (z : List Int) (sh wo qu tr : Int) (B : Option Addr) (m d : Nat) (zb : List Int) (k x : Int) (C : Option Addr) (q f : Nat) (y : List Int) (cu : Int) (w : World) (hL : Laid w) (wa : (Lit.int .u32 a).wf = true) (wr : IsRow .i64 w A n c z) (wb : IsRow .i64 w B m d zb) (wx : (Lit.int .u32 x).wf = true) (wy : IsRow .u32 w C q f y) (wc : (Lit.int .u8 cu).wf = true) :
    Calls Tryd.prog 8 #[.agg #[.int .u32 a, .int .i64 p, .slice A n c, .int .i64 sh, .int .i64 wo, .int .i64 qu, .int .i64 tr], .slice B m d, .agg #[.int .i64 k, .int .u32 x, .slice C q f], .int .u8 cu] w fun e w' => e = .returned (.bool true) ∧ Below w.heap.size w w' := by
  obtain ⟨a, rfl, ha⟩ := wf_u32 wa
  obtain ⟨X, rfl, hX⟩ := wf_u32 wx
  obtain ⟨cu, rfl, hcu⟩ := wf_u8 wc
  obtain ⟨zs, h, _⟩ := IS.of_row wr
  obtain ⟨xs, hs, _⟩ := IS.of_row wb
  obtain ⟨ys, hy, hw⟩ := row_u32 wy
  exact main hL ha h hs hy hX hw hcu
end
end Go.Proofs.YtmakbmmnjbnfiaaDoor.specWhole
