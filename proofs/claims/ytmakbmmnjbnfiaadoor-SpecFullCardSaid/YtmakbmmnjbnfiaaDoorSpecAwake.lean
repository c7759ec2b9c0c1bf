/-
  Legal and Some at given requests and answers, and the anchor of layer 11's laws, which answers true.
-/
import Derived.Test.YtmakbmmnjbnfiaaDoorSpecLegal
namespace Go.Proofs.YtmakbmmnjbnfiaaDoor
open Go.RowKit
set_option linter.unusedVariables false
section
variable {w : World} {lo lo2 lo3 a M m d q f X : Nat} {p sh wo qu tr k : Int} {A B C : Option Addr} {n c : Nat} {zs xs ys : List Int} {lo4 lo5 p1 p2 q1 q2 : Nat} {P Q : Option Addr} {x : An} {xi : Int}
theorem legal_at {r : List Int × Bool} (hL0 : Laid w) (ha : a < 4294967296) (hM : Much a p M) (h0 : IS .i64 lo w A n c zs) (hn : n ≤ 65536) (hs0 : IS .i64 lo2 w B m d xs) (hm : m ≤ 60000) (hx : mayR M zs 0 xs = true) (hxi : xi = (X : Int)) (hX : X < 4294967296) (hy0 : IS .u32 lo3 w C q f ys) (hq : q ≤ 60000) (hw : W32 ys) (hA0 : IS .u32 lo4 w P p1 p2 x.2.2.2.1) (hE0 : IS .i64 lo5 w Q q1 q2 x.2.2.2.2) (b1 : p1 ≤ 60000) (b2 : q1 ≤ 60000) (hA1 : 0 ≤ x.2.1 ∧ x.2.1 < 4294967296) (hr : legS a M zs xs k X ys x = r) :
    Calls Tryd.prog 13 #[.agg #[.int .u32 (a : Int), .int .i64 p, .slice A n c, .int .i64 sh, .int .i64 wo, .int .i64 qu, .int .i64 tr], .slice B m d, .agg #[.int .i64 k, .int .u32 xi, .slice C q f], .agg #[.int .i64 x.1, .int .u32 x.2.1, .bool x.2.2.1, .slice P p1 p2, .slice Q q1 q2]] w (RetLB B m r w) := by
  subst hr hxi; exact legal_any hL0 ha hM h0 hn hs0 hm hx hX hy0 hq hw hA0 hE0 b1 b2 hA1
theorem some_at {rs : List Int} {ra : An} (hL0 : Laid w) (ha : a < 4294967296) (hM : Much a p M) (h0 : IS .i64 lo w A n c zs) (hn : n ≤ 65536) (hs0 : IS .i64 lo2 w B m d xs) (hm : m ≤ 60000) (hx : mayR M zs 0 xs = true) (hxi : xi = (X : Int)) (hX : X < 4294967296) (hy0 : IS .u32 lo3 w C q f ys) (hq : q ≤ 60000) (hw : W32 ys) (hr : someS a M zs xs k X ys = (rs, ra)) :
    Calls Tryd.prog 15 #[.agg #[.int .u32 (a : Int), .int .i64 p, .slice A n c, .int .i64 sh, .int .i64 wo, .int .i64 qu, .int .i64 tr], .slice B m d, .agg #[.int .i64 k, .int .u32 xi, .slice C q f]] w (RetSA B m rs ra w) := by
  subst hxi
  have T := some_any (k := k) (sh := sh) (wo := wo) (qu := qu) (tr := tr) hL0 ha hM h0 hn hs0 hm hx hX hy0 hq hw
  rw [hr] at T; exact T
end
set_option maxRecDepth 100000 in
set_option maxHeartbeats 4000000 in
theorem awake_any (w : World) (hL0 : Laid w) : Calls Tryd.prog 9 #[] w (RetBo true w) := by
  have hL := hL0
  have K := Below.refl w.heap.size w
  go_enter Tryd.func9, Tryd.ntmps9
  go_upto_region 2 with (first | (refine wpList_store_row rfl 27 (.tmp 1) (.tmp 21) rfl _ _ rfl (show _ = Value.agg #[.int .u32 0, .int .i64 30, .slice (some ⟨w.heap.size, 0, none⟩) 1 1, .int .i64 1, .int .i64 1, .int .i64 1, .int .i64 1] from rfl) _ _ (Bk.new _ _ _) cf_sz rfl (by simp [Value.oneCell']) ?_))
  try rw [World.setRow_alloc_new]
  have KS := K.size
  replace hL := hL.below (below_alloc _ (.cells #[.int .i64 0] 3))
  replace K := Below.then_ K (below_alloc _ (.cells #[.int .i64 0] 3))
  have Z := Bk.new (w) #[.int .i64 0] 3
  replace Z := Z.alloc (.cells #[.int .u32 0, .int .i64 30, .slice (some ⟨w.heap.size, 0, none⟩) 1 1, .int .i64 1, .int .i64 1, .int .i64 1, .int .i64 1] 27)
  replace hL := hL.below (below_alloc _ (.cells #[.int .u32 0, .int .i64 30, .slice (some ⟨w.heap.size, 0, none⟩) 1 1, .int .i64 1, .int .i64 1, .int .i64 1, .int .i64 1] 27))
  replace K := Below.then_ K (below_alloc _ (.cells #[.int .u32 0, .int .i64 30, .slice (some ⟨w.heap.size, 0, none⟩) 1 1, .int .i64 1, .int .i64 1, .int .i64 1, .int .i64 1] 27))
  have H := Bk.new ((w).alloc (.cells #[.int .i64 0] 3)) #[.int .u32 0, .int .i64 30, .slice (some ⟨w.heap.size, 0, none⟩) 1 1, .int .i64 1, .int .i64 1, .int .i64 1, .int .i64 1] 27
  try simp only [World.size_alloc] at Z H
  generalize ((w).alloc (.cells #[.int .i64 0] 3)).alloc (.cells #[.int .u32 0, .int .i64 30, .slice (some ⟨w.heap.size, 0, none⟩) 1 1, .int .i64 1, .int .i64 1, .int .i64 1, .int .i64 1] 27) = w1 at Z H hL K ⊢
  generalize hgH : w.heap.size + 1 = gH at Z H ⊢
  generalize hgZ : w.heap.size = gZ at Z H ⊢
  have Z_b : w.heap.size ≤ gZ := by omega
  have H_b : w.heap.size ≤ gH := by omega
  have ne_Z_H : gZ ≠ gH := by omega
  clear KS hgZ hgH 
  have h := IS.lit (k := .i64) (n := 1) [0] Z (by rfl) (by omega)
  go_upto_region 3 with (first | (refine wpList_store_row rfl 30 (.tmp 2) (.tmp 22) rfl _ _ rfl (show _ = Value.agg #[.int .i64 2, .int .u32 2, .slice none 0 0] from rfl) _ _ (Bk.new _ _ _) ak_sz rfl (by simp [Value.oneCell']) ?_))
  try rw [World.setRow_alloc_new]
  have KS := K.size
  have Z_l := Z.lt
  have H_l := H.lt
  replace Z := Z.alloc (.cells #[.int .i64 2, .int .u32 2, .slice none 0 0] 30)
  replace H := H.alloc (.cells #[.int .i64 2, .int .u32 2, .slice none 0 0] 30)
  replace hL := hL.below (below_alloc _ (.cells #[.int .i64 2, .int .u32 2, .slice none 0 0] 30))
  replace h := h.below (below_alloc _ (.cells #[.int .i64 2, .int .u32 2, .slice none 0 0] 30))
  replace K := Below.then_ K (below_alloc _ (.cells #[.int .i64 2, .int .u32 2, .slice none 0 0] 30))
  have E := Bk.new (w1) #[.int .i64 2, .int .u32 2, .slice none 0 0] 30
  try simp only [World.size_alloc] at E
  generalize (w1).alloc (.cells #[.int .i64 2, .int .u32 2, .slice none 0 0] 30) = w2 at Z H E hL h K ⊢
  generalize hgE : w1.heap.size = gE at E ⊢
  have E_b : w.heap.size ≤ gE := by omega
  have ne_Z_E : gZ ≠ gE := by omega
  have ne_H_E : gH ≠ gE := by omega
  clear KS hgE Z_l H_l
  have H_0 := H.at_ (v := .int .u32 0) 0 rfl
  have H_1 := H.at_ (v := .int .i64 30) 1 rfl
  have H_2 := H.at_ (v := .slice (some ⟨gZ, 0, none⟩) 1 1) 2 rfl
  have H_3 := H.at_ (v := .int .i64 1) 3 rfl
  have H_4 := H.at_ (v := .int .i64 1) 4 rfl
  have H_5 := H.at_ (v := .int .i64 1) 5 rfl
  have H_6 := H.at_ (v := .int .i64 1) 6 rfl
  have H_z := H.lt
  have E_0 := E.at_ (v := .int .i64 2) 0 rfl
  have E_1 := E.at_ (v := .int .u32 2) 1 rfl
  have E_2 := E.at_ (v := .slice none 0 0) 2 rfl
  have E_z := E.lt
  go_wp2_with fail
  refine (legal_at (a := 0) (M := 4) (p := 30) (sh := 1) (wo := 1) (qu := 1) (tr := 1) (zs := [0]) (xs := []) (k := 2) (X := 2) (x := okA 2) (r := ([2], true)) (hL) (by omega) much30 (h) (by omega) (IS.none_ .i64 0 _) (by omega) (by decide +kernel) rfl (by omega) (IS.none_ .u32 0 _) (by omega) (by intro y hy; cases hy) (IS.none_ .u32 0 _) (IS.none_ .i64 0 _) (by omega) (by omega) (by decide +kernel) (by decide +kernel)).mono ?_
  rintro e w3 ⟨SA, Sn, Sc, rfl, S, hav, K'⟩
  clear H_0 H_1 H_2 H_3 H_4 H_5 H_6 H_z
  clear E_0 E_1 E_2 E_z
  replace Z := Z.below K'
  replace H := H.below K'
  replace E := E.below K'
  replace hL := hL.below K'
  replace h := h.below K'
  replace K := Below.then_ K K'
  clear K'
  clear hav
  obtain rfl : 1 = Sn := S.len
  have H_0 := H.at_ (v := .int .u32 0) 0 rfl
  have H_1 := H.at_ (v := .int .i64 30) 1 rfl
  have H_2 := H.at_ (v := .slice (some ⟨gZ, 0, none⟩) 1 1) 2 rfl
  have H_3 := H.at_ (v := .int .i64 1) 3 rfl
  have H_4 := H.at_ (v := .int .i64 1) 4 rfl
  have H_5 := H.at_ (v := .int .i64 1) 5 rfl
  have H_6 := H.at_ (v := .int .i64 1) 6 rfl
  have H_z := H.lt
  have E_0 := E.at_ (v := .int .i64 2) 0 rfl
  have E_1 := E.at_ (v := .int .u32 2) 1 rfl
  have E_2 := E.at_ (v := .slice none 0 0) 2 rfl
  have E_z := E.lt
  go_wp2_with fail
  refine (legal_at (a := 0) (M := 4) (p := 30) (sh := 1) (wo := 1) (qu := 1) (tr := 1) (zs := [0]) (xs := [2]) (k := 2) (X := 2) (x := okA 2) (r := ([2], false)) (hL) (by omega) much30 (h) (by omega) S (by omega) (by decide +kernel) rfl (by omega) (IS.none_ .u32 0 _) (by omega) (by intro y hy; cases hy) (IS.none_ .u32 0 _) (IS.none_ .i64 0 _) (by omega) (by omega) (by decide +kernel) (by decide +kernel)).mono ?_
  rintro e w4 ⟨S2A, S2n, S2c, rfl, S2, hav, K'⟩
  clear H_0 H_1 H_2 H_3 H_4 H_5 H_6 H_z
  clear E_0 E_1 E_2 E_z
  replace Z := Z.below K'
  replace H := H.below K'
  replace E := E.below K'
  replace hL := hL.below K'
  replace h := h.below K'
  replace S := S.below K'
  replace K := Below.then_ K K'
  clear K'
  clear hav S2
  have H_0 := H.at_ (v := .int .u32 0) 0 rfl
  have H_1 := H.at_ (v := .int .i64 30) 1 rfl
  have H_2 := H.at_ (v := .slice (some ⟨gZ, 0, none⟩) 1 1) 2 rfl
  have H_3 := H.at_ (v := .int .i64 1) 3 rfl
  have H_4 := H.at_ (v := .int .i64 1) 4 rfl
  have H_5 := H.at_ (v := .int .i64 1) 5 rfl
  have H_6 := H.at_ (v := .int .i64 1) 6 rfl
  have H_z := H.lt
  go_wp2_with fail
  refine (some_at (a := 0) (M := 4) (p := 30) (sh := 1) (wo := 1) (qu := 1) (tr := 1) (zs := [0]) (xs := [2]) (k := 1) (X := 0) (ys := []) (rs := [1, 2]) (ra := okA 1) (hL) (by omega) much30 (h) (by omega) S (by omega) (by decide +kernel) rfl (by omega) (IS.none_ .u32 0 _) (by omega) (by intro y hy; cases hy) (by decide +kernel)).mono ?_
  rintro e w5 ⟨TA, Tn, Tc, DA, Dn, Dc, FA, Fn, Fc, rfl, T, hav, D, F, K'⟩
  clear H_0 H_1 H_2 H_3 H_4 H_5 H_6 H_z
  replace Z := Z.below K'
  replace H := H.below K'
  replace E := E.below K'
  replace hL := hL.below K'
  replace h := h.below K'
  replace S := S.below K'
  replace K := Below.then_ K K'
  clear K'
  clear hav
  obtain rfl : 2 = Tn := T.len
  obtain rfl : 0 = Dn := D.len
  obtain rfl : 0 = Fn := F.len
  go_upto_region 6 with (first | (refine wpList_store_row rfl 34 (.tmp 8) (.tmp 44) rfl _ _ rfl (show _ = Value.agg #[.int .i64 0, .int .u32 1, .bool false, .slice DA 0 Dc, .slice FA 0 Fc] from rfl) _ _ (Bk.new _ _ _) an_sz rfl (by simp [Value.oneCell']) ?_))
  try rw [World.setRow_alloc_new]
  have KS := K.size
  have Z_l := Z.lt
  have H_l := H.lt
  have E_l := E.lt
  replace Z := Z.alloc (.cells #[.int .i64 0, .int .u32 1, .bool false, .slice DA 0 Dc, .slice FA 0 Fc] 34)
  replace H := H.alloc (.cells #[.int .i64 0, .int .u32 1, .bool false, .slice DA 0 Dc, .slice FA 0 Fc] 34)
  replace E := E.alloc (.cells #[.int .i64 0, .int .u32 1, .bool false, .slice DA 0 Dc, .slice FA 0 Fc] 34)
  replace hL := hL.below (below_alloc _ (.cells #[.int .i64 0, .int .u32 1, .bool false, .slice DA 0 Dc, .slice FA 0 Fc] 34))
  replace h := h.below (below_alloc _ (.cells #[.int .i64 0, .int .u32 1, .bool false, .slice DA 0 Dc, .slice FA 0 Fc] 34))
  replace S := S.below (below_alloc _ (.cells #[.int .i64 0, .int .u32 1, .bool false, .slice DA 0 Dc, .slice FA 0 Fc] 34))
  replace T := T.below (below_alloc _ (.cells #[.int .i64 0, .int .u32 1, .bool false, .slice DA 0 Dc, .slice FA 0 Fc] 34))
  replace D := D.below (below_alloc _ (.cells #[.int .i64 0, .int .u32 1, .bool false, .slice DA 0 Dc, .slice FA 0 Fc] 34))
  replace F := F.below (below_alloc _ (.cells #[.int .i64 0, .int .u32 1, .bool false, .slice DA 0 Dc, .slice FA 0 Fc] 34))
  replace K := Below.then_ K (below_alloc _ (.cells #[.int .i64 0, .int .u32 1, .bool false, .slice DA 0 Dc, .slice FA 0 Fc] 34))
  have X := Bk.new (w5) #[.int .i64 0, .int .u32 1, .bool false, .slice DA 0 Dc, .slice FA 0 Fc] 34
  try simp only [World.size_alloc] at X
  generalize (w5).alloc (.cells #[.int .i64 0, .int .u32 1, .bool false, .slice DA 0 Dc, .slice FA 0 Fc] 34) = w6 at Z H E X hL h S T D F K ⊢
  generalize hgX : w5.heap.size = gX at X ⊢
  have X_b : w.heap.size ≤ gX := by omega
  have ne_Z_X : gZ ≠ gX := by omega
  have ne_H_X : gH ≠ gX := by omega
  have ne_E_X : gE ≠ gX := by omega
  clear KS hgX Z_l H_l E_l
  have H_0 := H.at_ (v := .int .u32 0) 0 rfl
  have H_1 := H.at_ (v := .int .i64 30) 1 rfl
  have H_2 := H.at_ (v := .slice (some ⟨gZ, 0, none⟩) 1 1) 2 rfl
  have H_3 := H.at_ (v := .int .i64 1) 3 rfl
  have H_4 := H.at_ (v := .int .i64 1) 4 rfl
  have H_5 := H.at_ (v := .int .i64 1) 5 rfl
  have H_6 := H.at_ (v := .int .i64 1) 6 rfl
  have H_z := H.lt
  go_wp2_with fail
  refine (legal_at (a := 0) (M := 4) (p := 30) (sh := 1) (wo := 1) (qu := 1) (tr := 1) (zs := [0]) (xs := [2]) (k := 1) (X := 0) (x := okA 3) (r := ([2, 3], true)) (hL) (by omega) much30 (h) (by omega) S (by omega) (by decide +kernel) rfl (by omega) (IS.none_ .u32 0 _) (by omega) (by intro y hy; cases hy) (IS.none_ .u32 0 _) (IS.none_ .i64 0 _) (by omega) (by omega) (by decide +kernel) (by decide +kernel)).mono ?_
  rintro e w7 ⟨S2A, S2n, S2c, rfl, S2, hav, K'⟩
  clear H_0 H_1 H_2 H_3 H_4 H_5 H_6 H_z
  replace Z := Z.below K'
  replace H := H.below K'
  replace E := E.below K'
  replace X := X.below K'
  replace hL := hL.below K'
  replace h := h.below K'
  replace S := S.below K'
  replace T := T.below K'
  replace D := D.below K'
  replace F := F.below K'
  replace K := Below.then_ K K'
  clear K'
  clear hav S2
  have H_0 := H.at_ (v := .int .u32 0) 0 rfl
  have H_1 := H.at_ (v := .int .i64 30) 1 rfl
  have H_2 := H.at_ (v := .slice (some ⟨gZ, 0, none⟩) 1 1) 2 rfl
  have H_3 := H.at_ (v := .int .i64 1) 3 rfl
  have H_4 := H.at_ (v := .int .i64 1) 4 rfl
  have H_5 := H.at_ (v := .int .i64 1) 5 rfl
  have H_6 := H.at_ (v := .int .i64 1) 6 rfl
  have H_z := H.lt
  go_wp2_with fail
  refine (legal_at (a := 0) (M := 4) (p := 30) (sh := 1) (wo := 1) (qu := 1) (tr := 1) (zs := [0]) (xs := [2]) (k := 1) (X := 0) (x := an0 9) (r := ([2], false)) (hL) (by omega) much30 (h) (by omega) S (by omega) (by decide +kernel) rfl (by omega) (IS.none_ .u32 0 _) (by omega) (by intro y hy; cases hy) (IS.none_ .u32 0 _) (IS.none_ .i64 0 _) (by omega) (by omega) (by decide +kernel) (by decide +kernel)).mono ?_
  rintro e w8 ⟨S2A, S2n, S2c, rfl, S2, hav, K'⟩
  clear H_0 H_1 H_2 H_3 H_4 H_5 H_6 H_z
  replace Z := Z.below K'
  replace H := H.below K'
  replace E := E.below K'
  replace X := X.below K'
  replace hL := hL.below K'
  replace h := h.below K'
  replace S := S.below K'
  replace T := T.below K'
  replace D := D.below K'
  replace F := F.below K'
  replace K := Below.then_ K K'
  clear K'
  clear hav S2
  have H_0 := H.at_ (v := .int .u32 0) 0 rfl
  have H_1 := H.at_ (v := .int .i64 30) 1 rfl
  have H_2 := H.at_ (v := .slice (some ⟨gZ, 0, none⟩) 1 1) 2 rfl
  have H_3 := H.at_ (v := .int .i64 1) 3 rfl
  have H_4 := H.at_ (v := .int .i64 1) 4 rfl
  have H_5 := H.at_ (v := .int .i64 1) 5 rfl
  have H_6 := H.at_ (v := .int .i64 1) 6 rfl
  have H_z := H.lt
  go_wp2_with fail
  have KB := below_alloc w8 (.cells #[.int .i64 1, .int .i64 2, .int .i64 3] 3)
  have B0 := Bk.new w8 #[.int .i64 1, .int .i64 2, .int .i64 3] 3
  have TC := Lib.hid (legal_at (a := 0) (M := 4) (p := 30) (sh := 1) (wo := 1) (qu := 1) (tr := 1) (zs := [0]) (xs := [1, 2, 3]) (k := 1) (X := 0) (x := an0 9) (r := ([1, 2, 3], true)) (hL.below KB) (by omega) much30 (h.below KB) (by omega) (IS.lit (k := .i64) (n := 3) [1, 2, 3] B0 (by rfl) (by omega)) (by omega) (by decide +kernel) rfl (by omega) (IS.none_ .u32 0 _) (by omega) (by intro y hy; cases hy) (IS.none_ .u32 0 _) (IS.none_ .i64 0 _) (by omega) (by omega) (by decide +kernel) (by decide +kernel))
  refine TC.out.mono ?_
  clear TC
  rintro e w9 ⟨S2A, S2n, S2c, rfl, S2, hav, K'⟩
  clear H_0 H_1 H_2 H_3 H_4 H_5 H_6 H_z
  replace K' := Below.then_ KB K'
  clear KB B0
  replace Z := Z.below K'
  replace H := H.below K'
  replace E := E.below K'
  replace X := X.below K'
  replace hL := hL.below K'
  replace h := h.below K'
  replace S := S.below K'
  replace T := T.below K'
  replace D := D.below K'
  replace F := F.below K'
  replace K := Below.then_ K K'
  clear K'
  clear hav S2
  have H_0 := H.at_ (v := .int .u32 0) 0 rfl
  have H_1 := H.at_ (v := .int .i64 30) 1 rfl
  have H_2 := H.at_ (v := .slice (some ⟨gZ, 0, none⟩) 1 1) 2 rfl
  have H_3 := H.at_ (v := .int .i64 1) 3 rfl
  have H_4 := H.at_ (v := .int .i64 1) 4 rfl
  have H_5 := H.at_ (v := .int .i64 1) 5 rfl
  have H_6 := H.at_ (v := .int .i64 1) 6 rfl
  have H_z := H.lt
  go_wp2_with fail
  have KB := below_alloc w9 (.cells #[.int .i64 1, .int .i64 3] 3)
  have B0 := Bk.new w9 #[.int .i64 1, .int .i64 3] 3
  have KC := below_alloc (w9.alloc (.cells #[.int .i64 1, .int .i64 3] 3)) (.cells #[.int .u32 3, .int .u32 2] 22)
  have B0 := B0.alloc (.cells #[.int .u32 3, .int .u32 2] 22)
  replace KB := Below.then_ KB KC
  clear KC
  have B1 := Bk.new (w9.alloc (.cells #[.int .i64 1, .int .i64 3] 3)) #[.int .u32 3, .int .u32 2] 22
  simp only [World.size_alloc] at B1
  have TC := Lib.hid (some_at (a := 0) (M := 4) (p := 30) (sh := 1) (wo := 1) (qu := 1) (tr := 1) (zs := [0]) (xs := [1, 3]) (k := 4) (X := 0) (ys := [3, 2]) (rs := [1]) (ra := (0, 0, false, [], [0, 6])) (hL.below KB) (by omega) much30 (h.below KB) (by omega) (IS.lit (k := .i64) (n := 2) [1, 3] B0 (by rfl) (by omega)) (by omega) (by decide +kernel) rfl (by omega) (IS.lit (k := .u32) (n := 2) [3, 2] B1 (by rfl) (by omega)) (by omega) (w32_dec (by rfl)) (by decide +kernel))
  refine TC.out.mono ?_
  clear TC
  rintro e w10 ⟨UA, Un, Uc, D2A, D2n, D2c, F2A, F2n, F2c, rfl, U, hav, D2, F2, K'⟩
  clear H_0 H_1 H_2 H_3 H_4 H_5 H_6 H_z
  replace K' := Below.then_ KB K'
  clear KB B0 B1
  replace Z := Z.below K'
  replace H := H.below K'
  replace E := E.below K'
  replace X := X.below K'
  replace hL := hL.below K'
  replace h := h.below K'
  replace S := S.below K'
  replace T := T.below K'
  replace D := D.below K'
  replace F := F.below K'
  replace K := Below.then_ K K'
  clear K'
  clear hav
  obtain rfl : 1 = Un := U.len
  obtain rfl : 0 = D2n := D2.len
  obtain rfl : 2 = F2n := F2.len
  go_upto_region 10 with (first | (refine wpList_store_row rfl 34 (.tmp 16) (.tmp 76) rfl _ _ rfl (show _ = Value.agg #[.int .i64 0, .int .u32 0, .bool false, .slice D2A 0 D2c, .slice F2A 2 F2c] from rfl) _ _ (Bk.new _ _ _) an_sz rfl (by simp [Value.oneCell']) ?_))
  try rw [World.setRow_alloc_new]
  have KS := K.size
  have Z_l := Z.lt
  have H_l := H.lt
  have E_l := E.lt
  have X_l := X.lt
  replace Z := Z.alloc (.cells #[.int .i64 0, .int .u32 0, .bool false, .slice D2A 0 D2c, .slice F2A 2 F2c] 34)
  replace H := H.alloc (.cells #[.int .i64 0, .int .u32 0, .bool false, .slice D2A 0 D2c, .slice F2A 2 F2c] 34)
  replace E := E.alloc (.cells #[.int .i64 0, .int .u32 0, .bool false, .slice D2A 0 D2c, .slice F2A 2 F2c] 34)
  replace X := X.alloc (.cells #[.int .i64 0, .int .u32 0, .bool false, .slice D2A 0 D2c, .slice F2A 2 F2c] 34)
  replace hL := hL.below (below_alloc _ (.cells #[.int .i64 0, .int .u32 0, .bool false, .slice D2A 0 D2c, .slice F2A 2 F2c] 34))
  replace h := h.below (below_alloc _ (.cells #[.int .i64 0, .int .u32 0, .bool false, .slice D2A 0 D2c, .slice F2A 2 F2c] 34))
  replace S := S.below (below_alloc _ (.cells #[.int .i64 0, .int .u32 0, .bool false, .slice D2A 0 D2c, .slice F2A 2 F2c] 34))
  replace T := T.below (below_alloc _ (.cells #[.int .i64 0, .int .u32 0, .bool false, .slice D2A 0 D2c, .slice F2A 2 F2c] 34))
  replace D := D.below (below_alloc _ (.cells #[.int .i64 0, .int .u32 0, .bool false, .slice D2A 0 D2c, .slice F2A 2 F2c] 34))
  replace F := F.below (below_alloc _ (.cells #[.int .i64 0, .int .u32 0, .bool false, .slice D2A 0 D2c, .slice F2A 2 F2c] 34))
  replace U := U.below (below_alloc _ (.cells #[.int .i64 0, .int .u32 0, .bool false, .slice D2A 0 D2c, .slice F2A 2 F2c] 34))
  replace D2 := D2.below (below_alloc _ (.cells #[.int .i64 0, .int .u32 0, .bool false, .slice D2A 0 D2c, .slice F2A 2 F2c] 34))
  replace F2 := F2.below (below_alloc _ (.cells #[.int .i64 0, .int .u32 0, .bool false, .slice D2A 0 D2c, .slice F2A 2 F2c] 34))
  replace K := Below.then_ K (below_alloc _ (.cells #[.int .i64 0, .int .u32 0, .bool false, .slice D2A 0 D2c, .slice F2A 2 F2c] 34))
  have Y := Bk.new (w10) #[.int .i64 0, .int .u32 0, .bool false, .slice D2A 0 D2c, .slice F2A 2 F2c] 34
  try simp only [World.size_alloc] at Y
  generalize (w10).alloc (.cells #[.int .i64 0, .int .u32 0, .bool false, .slice D2A 0 D2c, .slice F2A 2 F2c] 34) = w11 at Z H E X Y hL h S T D F U D2 F2 K ⊢
  generalize hgY : w10.heap.size = gY at Y ⊢
  have Y_b : w.heap.size ≤ gY := by omega
  have ne_Z_Y : gZ ≠ gY := by omega
  have ne_H_Y : gH ≠ gY := by omega
  have ne_E_Y : gE ≠ gY := by omega
  have ne_X_Y : gX ≠ gY := by omega
  clear KS hgY Z_l H_l E_l X_l
  have H_0 := H.at_ (v := .int .u32 0) 0 rfl
  have H_1 := H.at_ (v := .int .i64 30) 1 rfl
  have H_2 := H.at_ (v := .slice (some ⟨gZ, 0, none⟩) 1 1) 2 rfl
  have H_3 := H.at_ (v := .int .i64 1) 3 rfl
  have H_4 := H.at_ (v := .int .i64 1) 4 rfl
  have H_5 := H.at_ (v := .int .i64 1) 5 rfl
  have H_6 := H.at_ (v := .int .i64 1) 6 rfl
  have H_z := H.lt
  have E_0 := E.at_ (v := .int .i64 2) 0 rfl
  have E_1 := E.at_ (v := .int .u32 2) 1 rfl
  have E_2 := E.at_ (v := .slice none 0 0) 2 rfl
  have E_z := E.lt
  go_wp2_with fail
  refine (legal_at (a := 0) (M := 4) (p := 30) (sh := 1) (wo := 1) (qu := 1) (tr := 1) (zs := [0]) (xs := [2]) (k := 2) (X := 2) (x := an0 10) (r := ([2], true)) (hL) (by omega) much30 (h) (by omega) S (by omega) (by decide +kernel) rfl (by omega) (IS.none_ .u32 0 _) (by omega) (by intro y hy; cases hy) (IS.none_ .u32 0 _) (IS.none_ .i64 0 _) (by omega) (by omega) (by decide +kernel) (by decide +kernel)).mono ?_
  rintro e w12 ⟨S2A, S2n, S2c, rfl, S2, hav, K'⟩
  clear H_0 H_1 H_2 H_3 H_4 H_5 H_6 H_z
  clear E_0 E_1 E_2 E_z
  replace Z := Z.below K'
  replace H := H.below K'
  replace E := E.below K'
  replace X := X.below K'
  replace Y := Y.below K'
  replace hL := hL.below K'
  replace h := h.below K'
  replace S := S.below K'
  replace T := T.below K'
  replace D := D.below K'
  replace F := F.below K'
  replace U := U.below K'
  replace D2 := D2.below K'
  replace F2 := F2.below K'
  replace K := Below.then_ K K'
  clear K'
  clear hav S2
  go_wp2_with fail
  have KB := below_alloc w12 (.cells #[.int .i64 2] 3)
  have B0 := Bk.new w12 #[.int .i64 2] 3
  have TC := Lib.hid (ints_same (S.below KB) (IS.lit (k := .i64) (n := 1) [2] B0 (by rfl) (by omega)) (by omega))
  refine TC.out.mono ?_
  clear TC
  rintro e w13 ⟨rfl, K'⟩
  replace K' := Below.then_ KB K'
  clear KB B0
  replace Z := Z.below K'
  replace H := H.below K'
  replace E := E.below K'
  replace X := X.below K'
  replace Y := Y.below K'
  replace hL := hL.below K'
  replace h := h.below K'
  replace S := S.below K'
  replace T := T.below K'
  replace D := D.below K'
  replace F := F.below K'
  replace U := U.below K'
  replace D2 := D2.below K'
  replace F2 := F2.below K'
  replace K := Below.then_ K K'
  clear K'
  go_wp2_with fail
  have KB := below_alloc w13 (.cells #[.int .i64 1, .int .i64 2] 3)
  have B0 := Bk.new w13 #[.int .i64 1, .int .i64 2] 3
  have TC := Lib.hid (ints_same (T.below KB) (IS.lit (k := .i64) (n := 2) [1, 2] B0 (by rfl) (by omega)) (by omega))
  refine TC.out.mono ?_
  clear TC
  rintro e w14 ⟨rfl, K'⟩
  replace K' := Below.then_ KB K'
  clear KB B0
  replace Z := Z.below K'
  replace H := H.below K'
  replace E := E.below K'
  replace X := X.below K'
  replace Y := Y.below K'
  replace hL := hL.below K'
  replace h := h.below K'
  replace S := S.below K'
  replace T := T.below K'
  replace D := D.below K'
  replace F := F.below K'
  replace U := U.below K'
  replace D2 := D2.below K'
  replace F2 := F2.below K'
  replace K := Below.then_ K K'
  clear K'
  have X_0 := X.at_ (v := .int .i64 0) 0 rfl
  have X_1 := X.at_ (v := .int .u32 1) 1 rfl
  have X_2 := X.at_ (v := .bool false) 2 rfl
  have X_3 := X.at_ (v := .slice DA 0 Dc) 3 rfl
  have X_4 := X.at_ (v := .slice FA 0 Fc) 4 rfl
  have X_z := X.lt
  go_wp2_with fail
  have KB := below_alloc w14 (.cells #[.int .i64 1] 3)
  have B0 := Bk.new w14 #[.int .i64 1] 3
  have TC := Lib.hid (ints_same (U.below KB) (IS.lit (k := .i64) (n := 1) [1] B0 (by rfl) (by omega)) (by omega))
  refine TC.out.mono ?_
  clear TC
  rintro e w15 ⟨rfl, K'⟩
  clear X_0 X_1 X_2 X_3 X_4 X_z
  replace K' := Below.then_ KB K'
  clear KB B0
  replace Z := Z.below K'
  replace H := H.below K'
  replace E := E.below K'
  replace X := X.below K'
  replace Y := Y.below K'
  replace hL := hL.below K'
  replace h := h.below K'
  replace S := S.below K'
  replace T := T.below K'
  replace D := D.below K'
  replace F := F.below K'
  replace U := U.below K'
  replace D2 := D2.below K'
  replace F2 := F2.below K'
  replace K := Below.then_ K K'
  clear K'
  have Y_0 := Y.at_ (v := .int .i64 0) 0 rfl
  have Y_1 := Y.at_ (v := .int .u32 0) 1 rfl
  have Y_2 := Y.at_ (v := .bool false) 2 rfl
  have Y_3 := Y.at_ (v := .slice D2A 0 D2c) 3 rfl
  have Y_4 := Y.at_ (v := .slice F2A 2 F2c) 4 rfl
  have Y_z := Y.lt
  go_wp2_with fail
  have KB := below_alloc w15 (.cells #[.int .i64 0, .int .i64 6] 31)
  have B0 := Bk.new w15 #[.int .i64 0, .int .i64 6] 31
  have TC := Lib.hid (rerrs_any (F2.below KB) (IS.lit (k := .i64) (n := 2) [0, 6] B0 (by rfl) (by omega)) (by omega) (by omega))
  refine TC.out.mono ?_
  clear TC
  rintro e w16 ⟨rfl, K'⟩
  replace K' := Below.then_ KB K'
  clear KB B0
  replace Z := Z.below K'
  replace H := H.below K'
  replace E := E.below K'
  replace X := X.below K'
  replace Y := Y.below K'
  replace hL := hL.below K'
  replace h := h.below K'
  replace S := S.below K'
  replace T := T.below K'
  replace D := D.below K'
  replace F := F.below K'
  replace U := U.below K'
  replace D2 := D2.below K'
  replace F2 := F2.below K'
  replace K := Below.then_ K K'
  clear K'
  clear Y_0 Y_1 Y_2 Y_3 Y_4 Y_z
  have X_0 := X.at_ (v := .int .i64 0) 0 rfl
  have X_1 := X.at_ (v := .int .u32 1) 1 rfl
  have X_2 := X.at_ (v := .bool false) 2 rfl
  have X_3 := X.at_ (v := .slice DA 0 Dc) 3 rfl
  have X_4 := X.at_ (v := .slice FA 0 Fc) 4 rfl
  have X_z := X.lt
  go_wp2_with fail
  refine (same_is (x := okA 1) (y := okA 1) D F (IS.none_ .u32 0 _) (IS.none_ .i64 0 _) (by omega) (by omega) (by omega) (by omega) (decide_eq_true rfl)).mono ?_
  rintro e w17 ⟨rfl, K'⟩
  clear X_0 X_1 X_2 X_3 X_4 X_z
  replace Z := Z.below K'
  replace H := H.below K'
  replace E := E.below K'
  replace X := X.below K'
  replace Y := Y.below K'
  replace hL := hL.below K'
  replace h := h.below K'
  replace S := S.below K'
  replace T := T.below K'
  replace D := D.below K'
  replace F := F.below K'
  replace U := U.below K'
  replace D2 := D2.below K'
  replace F2 := F2.below K'
  replace K := Below.then_ K K'
  clear K'
  have X_0 := X.at_ (v := .int .i64 0) 0 rfl
  have X_1 := X.at_ (v := .int .u32 1) 1 rfl
  have X_2 := X.at_ (v := .bool false) 2 rfl
  have X_3 := X.at_ (v := .slice DA 0 Dc) 3 rfl
  have X_4 := X.at_ (v := .slice FA 0 Fc) 4 rfl
  have X_z := X.lt
  have Y_0 := Y.at_ (v := .int .i64 0) 0 rfl
  have Y_1 := Y.at_ (v := .int .u32 0) 1 rfl
  have Y_2 := Y.at_ (v := .bool false) 2 rfl
  have Y_3 := Y.at_ (v := .slice D2A 0 D2c) 3 rfl
  have Y_4 := Y.at_ (v := .slice F2A 2 F2c) 4 rfl
  have Y_z := Y.lt
  go_wp2_with fail
  refine (same_is (x := okA 1) (y := (0, 0, false, [], [0, 6])) D F D2 F2 (by omega) (by omega) (by omega) (by omega) (decide_eq_false (by decide))).mono ?_
  rintro e w18 ⟨rfl, K'⟩
  clear X_0 X_1 X_2 X_3 X_4 X_z
  clear Y_0 Y_1 Y_2 Y_3 Y_4 Y_z
  replace Z := Z.below K'
  replace H := H.below K'
  replace E := E.below K'
  replace X := X.below K'
  replace Y := Y.below K'
  replace hL := hL.below K'
  replace h := h.below K'
  replace S := S.below K'
  replace T := T.below K'
  replace D := D.below K'
  replace F := F.below K'
  replace U := U.below K'
  replace D2 := D2.below K'
  replace F2 := F2.below K'
  replace K := Below.then_ K K'
  clear K'
  go_wp2
  go_ret
  exact ⟨rfl, K⟩
end Go.Proofs.YtmakbmmnjbnfiaaDoor
