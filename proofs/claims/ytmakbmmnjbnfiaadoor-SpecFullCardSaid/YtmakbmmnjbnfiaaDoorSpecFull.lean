/-
  The walk of the law SpecFull: for every configuration and list it answers true.
-/
import Derived.Test.YtmakbmmnjbnfiaaDoorSpecFacts
namespace Go.Proofs.YtmakbmmnjbnfiaaDoor.specFull
open Go.RowKit
set_option linter.unusedVariables false
section
variable {w : World} {lo lo2 lo3 lo4 lo5 a m d q f X p1 p2 q1 q2 : Nat} {p sh wo qu tr k : Int} {A B C P Q : Option Addr} {n c : Nat} {zs xs ys : List Int} {x : An}
/-- What is known at a round's head: r grants were made; the set is cur; L is the last address. -/
structure FI (a M : Nat) (zs xs : List Int) (r : Nat) (cur : List Int) (L : Int) : Prop where
  may : mayR M zs 0 cur = true
  len : cur.length = xs.length + r
  last : 0 < r → ∃ o : Nat, L = ((a + o : Nat) : Int) ∧ ∀ i, i ≤ o → fr zs cur i = false
theorem FI.start {M : Nat} (hx : mayR M zs 0 xs = true) : FI a M zs xs 0 xs 0 := ⟨hx, rfl, fun h => absurd h (by omega)⟩
theorem FI.step {M : Nat} {r : Nat} {cur : List Int} {L : Int} {o : Nat} (h : FI a M zs xs r cur L) (hl : lea zs cur M = some o) : FI a M zs xs (r + 1) (ins cur (o : Int)) ((a + o : Nat) : Int) := by
  obtain ⟨h1, h2, h3⟩ := lea_is hl
  obtain ⟨h4, h5⟩ := fr_iff.1 h2
  have hr := (mayR_iff.1 h.may).1
  refine ⟨ins_may h.may (by omega) (by omega) h4, by rw [len_ins_out hr h5, h.len]; omega, fun _ => ⟨o, rfl, fun i hi => ?_⟩⟩
  have keep : ∀ i : Nat, fr zs cur i = false → fr zs (ins cur (o : Int)) i = false := by
    intro i hi
    cases hf : fr zs (ins cur (o : Int)) i with
    | false => rfl
    | true =>
      obtain ⟨g1, g2⟩ := fr_iff.1 hf
      have : fr zs cur i = true := fr_iff.2 ⟨g1, by
        cases hc : hasB cur (i : Int) with
        | false => rfl
        | true => rw [hasB_iff.2 (mem_ins.2 (.inr (hasB_iff.1 hc)))] at g2; cases g2⟩
      rw [this] at hi; cases hi
  rcases Nat.lt_or_ge i o with g | g
  · exact keep i (h3 i g)
  · obtain rfl : i = o := by omega
    unfold fr
    rw [has_ins]; simp
theorem FI.more {M : Nat} {r : Nat} {cur : List Int} {L : Int} {o : Nat} (h : FI a M zs xs r cur L) (hl : lea zs cur M = some o) (h0 : 0 < r) : L < ((a + o : Nat) : Int) := by
  obtain ⟨o', h1, h2⟩ := h.last h0
  obtain ⟨_, h3, _⟩ := lea_is hl
  rcases Nat.lt_or_ge o' o with g | g
  · omega
  · rw [h2 o g] at h3; cases h3
theorem someS_1 {M : Nat} {ys : List Int} {X : Nat} : someS a M zs xs 1 X ys = doS a M zs xs 1 X ys := by
  unfold someS
  rw [if_pos (askE_free (.inl rfl))]
set_option maxRecDepth 100000 in
set_option maxHeartbeats 4000000 in
theorem main (hL0 : Laid w) (ha : a < 4294967296) (h0 : IS .i64 lo w A n c zs) (hs0 : IS .i64 lo2 w B m d xs) :
    Calls Tryd.prog 7 #[.agg #[.int .u32 (a : Int), .int .i64 p, .slice A n c, .int .i64 sh, .int .i64 wo, .int .i64 qu, .int .i64 tr], .slice B m d] w (RetBo true w) := by
  have hL := hL0
  have h := h0
  have hs := hs0
  have K := Below.refl w.heap.size w
  go_enter Tryd.func7, Tryd.ntmps7
  go_upto_region 1 with (fail)
  have KS := K.size
  replace hL := hL.below (below_alloc _ (.cells #[.int .u32 (a : Int), .int .i64 p, .slice A n c, .int .i64 sh, .int .i64 wo, .int .i64 qu, .int .i64 tr] 27))
  replace h := h.below (below_alloc _ (.cells #[.int .u32 (a : Int), .int .i64 p, .slice A n c, .int .i64 sh, .int .i64 wo, .int .i64 qu, .int .i64 tr] 27))
  replace hs := hs.below (below_alloc _ (.cells #[.int .u32 (a : Int), .int .i64 p, .slice A n c, .int .i64 sh, .int .i64 wo, .int .i64 qu, .int .i64 tr] 27))
  replace K := Below.then_ K (below_alloc _ (.cells #[.int .u32 (a : Int), .int .i64 p, .slice A n c, .int .i64 sh, .int .i64 wo, .int .i64 qu, .int .i64 tr] 27))
  have H := Bk.new (w) #[.int .u32 (a : Int), .int .i64 p, .slice A n c, .int .i64 sh, .int .i64 wo, .int .i64 qu, .int .i64 tr] 27
  try simp only [World.size_alloc] at H
  generalize (w).alloc (.cells #[.int .u32 (a : Int), .int .i64 p, .slice A n c, .int .i64 sh, .int .i64 wo, .int .i64 qu, .int .i64 tr] 27) = w1 at H hL h hs K ⊢
  generalize hgH : w.heap.size = gH at H ⊢
  have H_b : w.heap.size ≤ gH := by omega
  clear KS hgH 
  go_wp2_with fail
  refine (awake_any _ hL).mono ?_
  rintro e w2 ⟨rfl, K'⟩
  replace H := H.below K'
  replace hL := hL.below K'
  replace h := h.below K'
  replace hs := hs.below K'
  replace K := Below.then_ K K'
  clear K'
  have H_0 := H.at_ (v := .int .u32 (a : Int)) 0 rfl
  have H_1 := H.at_ (v := .int .i64 p) 1 rfl
  have H_2 := H.at_ (v := .slice A n c) 2 rfl
  have H_3 := H.at_ (v := .int .i64 sh) 3 rfl
  have H_4 := H.at_ (v := .int .i64 wo) 4 rfl
  have H_5 := H.at_ (v := .int .i64 qu) 5 rfl
  have H_6 := H.at_ (v := .int .i64 tr) 6 rfl
  have H_z := H.lt
  go_wp2_with fail
  refine (fits11_any ha h hs).mono ?_
  rintro e w3 ⟨bo, rfl, hB_, K'⟩
  clear H_0 H_1 H_2 H_3 H_4 H_5 H_6 H_z
  replace H := H.below K'
  replace hL := hL.below K'
  replace h := h.below K'
  replace hs := hs.below K'
  replace K := Below.then_ K K'
  clear K'
  rcases bo with _ | _
  · clear hB_
    go_wp2_with fail
    refine (awake_any _ hL).mono ?_
    rintro e w4 ⟨rfl, K'⟩
    replace H := H.below K'
    replace hL := hL.below K'
    replace h := h.below K'
    replace hs := hs.below K'
    replace K := Below.then_ K K'
    clear K'
    go_wp2
    go_ret
    exact ⟨rfl, K⟩
  obtain ⟨M, hC, hM2, hm3, hx_⟩ := hB_ rfl
  clear hB_
  have hM := hC.much
  have hMm := hM.most
  have hn : n ≤ 65536 := by have := hC.few; omega
  have hris := Lib.hid hC.ris
  have hx := Lib.hid hx_
  have hr := Lib.hid (mayR_iff.1 hx_).1
  clear hx_ hC
  have hm : m ≤ 60000 := by omega
  have hfit := hM.fits ha
  go_upto_region 5 with (first | (refine wpList_store_row rfl 30 (.tmp 6) (.tmp 24) rfl _ _ rfl (show _ = Value.agg #[.int .i64 1, .int .u32 0, .slice none 0 0] from rfl) _ _ (Bk.new _ _ _) ak_sz rfl (by simp [Value.oneCell']) ?_))
  try rw [World.setRow_alloc_new]
  have KS := K.size
  have H_l := H.lt
  replace H := H.alloc (.cells #[.int .i64 1, .int .u32 0, .slice none 0 0] 30)
  replace hL := hL.below (below_alloc _ (.cells #[.int .i64 1, .int .u32 0, .slice none 0 0] 30))
  replace h := h.below (below_alloc _ (.cells #[.int .i64 1, .int .u32 0, .slice none 0 0] 30))
  replace hs := hs.below (below_alloc _ (.cells #[.int .i64 1, .int .u32 0, .slice none 0 0] 30))
  replace K := Below.then_ K (below_alloc _ (.cells #[.int .i64 1, .int .u32 0, .slice none 0 0] 30))
  have G := Bk.new (w3) #[.int .i64 1, .int .u32 0, .slice none 0 0] 30
  try simp only [World.size_alloc] at G
  generalize (w3).alloc (.cells #[.int .i64 1, .int .u32 0, .slice none 0 0] 30) = w4 at H G hL h hs K ⊢
  generalize hgG : w3.heap.size = gG at G ⊢
  have G_b : w.heap.size ≤ gG := by omega
  have ne_H_G : gH ≠ gG := by omega
  clear KS hgG H_l
  go_upto_region 6 with (first | (refine wpList_store_row rfl 34 (.tmp 7) (.tmp 25) rfl _ _ rfl (show _ = Value.agg #[.int .i64 9, .int .u32 0, .bool false, .slice none 0 0, .slice none 0 0] from rfl) _ _ (Bk.new _ _ _) an_sz rfl (by simp [Value.oneCell']) ?_))
  try rw [World.setRow_alloc_new]
  have KS := K.size
  have H_l := H.lt
  have G_l := G.lt
  replace H := H.alloc (.cells #[.int .i64 9, .int .u32 0, .bool false, .slice none 0 0, .slice none 0 0] 34)
  replace G := G.alloc (.cells #[.int .i64 9, .int .u32 0, .bool false, .slice none 0 0, .slice none 0 0] 34)
  replace hL := hL.below (below_alloc _ (.cells #[.int .i64 9, .int .u32 0, .bool false, .slice none 0 0, .slice none 0 0] 34))
  replace h := h.below (below_alloc _ (.cells #[.int .i64 9, .int .u32 0, .bool false, .slice none 0 0, .slice none 0 0] 34))
  replace hs := hs.below (below_alloc _ (.cells #[.int .i64 9, .int .u32 0, .bool false, .slice none 0 0, .slice none 0 0] 34))
  replace K := Below.then_ K (below_alloc _ (.cells #[.int .i64 9, .int .u32 0, .bool false, .slice none 0 0, .slice none 0 0] 34))
  have F := Bk.new (w4) #[.int .i64 9, .int .u32 0, .bool false, .slice none 0 0, .slice none 0 0] 34
  try simp only [World.size_alloc] at F
  generalize (w4).alloc (.cells #[.int .i64 9, .int .u32 0, .bool false, .slice none 0 0, .slice none 0 0] 34) = w5 at H G F hL h hs K ⊢
  generalize hgF : w4.heap.size = gF at F ⊢
  have F_b : w.heap.size ≤ gF := by omega
  have ne_H_F : gH ≠ gF := by omega
  have ne_G_F : gG ≠ gF := by omega
  clear KS hgF H_l G_l
  go_wp2
  go_loopw [5, 8, 9] (fun s l i wr => ∃ (r n1 c1 : Nat) (S : Option Addr) (cur : List Int) (L : Int), r ≤ 256 ∧ i = .int .i64 r ∧ s = .slice S n1 c1 ∧ l = .int .u32 L ∧ Hid (IS .i64 0 wr S n1 c1 cur) ∧ Hid (FI a M zs xs r cur L) ∧ Below w5.heap.size w5 wr) (fun _ _ i _ => 257 - (intOf i).toNat)
  case atStart => exact ⟨0, m, d, B, xs, 0, by omega, rfl, rfl, rfl, Lib.hid (hs.lower (Nat.zero_le _)), Lib.hid (FI.start hx.out), Below.refl _ _⟩
  case round =>
    obtain ⟨r, n1, c1, S, cur, L, hk, rfl, rfl, rfl, HI, HF, Kr⟩ := hrel
    clear hs
    replace H := H.below Kr
    replace G := G.below Kr
    replace F := F.below Kr
    replace hL := hL.below Kr
    replace h := h.below Kr
    replace K := Below.then_ K Kr
    have I := HI.out
    clear HI
    have hml := I.len
    have hmf := may_few hris.out HF.out.may
    have hn1 : n1 ≤ 256 := by omega
    have hmay := Lib.hid HF.out.may
    have hrl : n1 ≤ 60000 := by omega
    have T := legal_at (k := 1) (X := 0) (xi := 0) (x := an0 9) (sh := sh) (wo := wo) (qu := qu) (tr := tr) hL ha hM h hn I hrl hmay.out rfl (by omega) (IS.none_ .u32 0 _) (by omega) (fun y hy => by cases hy) (IS.none_ .u32 0 _) (IS.none_ .i64 0 _) (by omega) (by omega) (by decide) leg_full
    cases hl : lea zs cur M with
    | none =>
      rw [show fullB M zs cur = true from lea_full.1 hl] at T
      replace T := Lib.hid T
      have hl2 := Lib.hid hl
      clear hl
      have H_0 := H.at_ (v := .int .u32 (a : Int)) 0 rfl
      have H_1 := H.at_ (v := .int .i64 p) 1 rfl
      have H_2 := H.at_ (v := .slice A n c) 2 rfl
      have H_3 := H.at_ (v := .int .i64 sh) 3 rfl
      have H_4 := H.at_ (v := .int .i64 wo) 4 rfl
      have H_5 := H.at_ (v := .int .i64 qu) 5 rfl
      have H_6 := H.at_ (v := .int .i64 tr) 6 rfl
      have H_z := H.lt
      have G_0 := G.at_ (v := .int .i64 1) 0 rfl
      have G_1 := G.at_ (v := .int .u32 0) 1 rfl
      have G_2 := G.at_ (v := .slice none 0 0) 2 rfl
      have G_z := G.lt
      have F_0 := F.at_ (v := .int .i64 9) 0 rfl
      have F_1 := F.at_ (v := .int .u32 0) 1 rfl
      have F_2 := F.at_ (v := .bool false) 2 rfl
      have F_3 := F.at_ (v := .slice none 0 0) 3 rfl
      have F_4 := F.at_ (v := .slice none 0 0) 4 rfl
      have F_z := F.lt
      go_wp2_with fail
      refine (T.out).mono ?_
      clear H_0 H_1 H_2 H_3 H_4 H_5 H_6 H_z
      clear G_0 G_1 G_2 G_z
      clear F_0 F_1 F_2 F_3 F_4 F_z
      rintro e w6 ⟨NA, Nn, Nc, rfl, N, hav, K'⟩
      clear hav N
      replace H := H.below K'
      replace G := G.below K'
      replace F := F.below K'
      replace hL := hL.below K'
      replace h := h.below K'
      replace I := I.below K'
      replace Kr := Below.then_ Kr K'
      replace K := Below.then_ K K'
      clear K'
      clear T
      have T3 := some_at (k := 1) (X := 0) (xi := 0) (sh := sh) (wo := wo) (qu := qu) (tr := tr) hL ha hM h hn I hrl hmay.out rfl (by omega) (IS.none_ .u32 0 _) (by omega) (fun y hy => by cases hy) (show someS a M zs cur 1 0 [] = (cur, an0 9) from by rw [someS_1, doS_1, hl2.out])
      replace T3 := Lib.hid T3
      have H_0 := H.at_ (v := .int .u32 (a : Int)) 0 rfl
      have H_1 := H.at_ (v := .int .i64 p) 1 rfl
      have H_2 := H.at_ (v := .slice A n c) 2 rfl
      have H_3 := H.at_ (v := .int .i64 sh) 3 rfl
      have H_4 := H.at_ (v := .int .i64 wo) 4 rfl
      have H_5 := H.at_ (v := .int .i64 qu) 5 rfl
      have H_6 := H.at_ (v := .int .i64 tr) 6 rfl
      have H_z := H.lt
      have G_0 := G.at_ (v := .int .i64 1) 0 rfl
      have G_1 := G.at_ (v := .int .u32 0) 1 rfl
      have G_2 := G.at_ (v := .slice none 0 0) 2 rfl
      have G_z := G.lt
      go_wp2_with fail
      refine (T3.out).mono ?_
      clear H_0 H_1 H_2 H_3 H_4 H_5 H_6 H_z
      clear G_0 G_1 G_2 G_z
      rintro e w7 ⟨VA, Vn, Vc, DA, Dn, Dc, EA, En, Ec, rfl, V, hav, D, E, K'⟩
      clear hav 
      replace H := H.below K'
      replace G := G.below K'
      replace F := F.below K'
      replace hL := hL.below K'
      replace h := h.below K'
      replace I := I.below K'
      replace Kr := Below.then_ Kr K'
      replace K := Below.then_ K K'
      clear K'
      clear T3
      go_upto_region 12 with (first | (refine wpList_store_row rfl 34 (.tmp 13) (.tmp 44) rfl _ _ rfl (show _ = Value.agg #[.int .i64 9, .int .u32 0, .bool false, .slice DA Dn Dc, .slice EA En Ec] from rfl) _ _ (Bk.new _ _ _) an_sz rfl (by simp [Value.oneCell']) ?_))
      try rw [World.setRow_alloc_new]
      have KS := K.size
      have H_l := H.lt
      have G_l := G.lt
      have F_l := F.lt
      replace H := H.alloc (.cells #[.int .i64 9, .int .u32 0, .bool false, .slice DA Dn Dc, .slice EA En Ec] 34)
      replace G := G.alloc (.cells #[.int .i64 9, .int .u32 0, .bool false, .slice DA Dn Dc, .slice EA En Ec] 34)
      replace F := F.alloc (.cells #[.int .i64 9, .int .u32 0, .bool false, .slice DA Dn Dc, .slice EA En Ec] 34)
      replace hL := hL.below (below_alloc _ (.cells #[.int .i64 9, .int .u32 0, .bool false, .slice DA Dn Dc, .slice EA En Ec] 34))
      replace h := h.below (below_alloc _ (.cells #[.int .i64 9, .int .u32 0, .bool false, .slice DA Dn Dc, .slice EA En Ec] 34))
      replace I := I.below (below_alloc _ (.cells #[.int .i64 9, .int .u32 0, .bool false, .slice DA Dn Dc, .slice EA En Ec] 34))
      replace V := V.below (below_alloc _ (.cells #[.int .i64 9, .int .u32 0, .bool false, .slice DA Dn Dc, .slice EA En Ec] 34))
      replace D := D.below (below_alloc _ (.cells #[.int .i64 9, .int .u32 0, .bool false, .slice DA Dn Dc, .slice EA En Ec] 34))
      replace E := E.below (below_alloc _ (.cells #[.int .i64 9, .int .u32 0, .bool false, .slice DA Dn Dc, .slice EA En Ec] 34))
      replace Kr := Below.then_ Kr (below_alloc _ (.cells #[.int .i64 9, .int .u32 0, .bool false, .slice DA Dn Dc, .slice EA En Ec] 34))
      replace K := Below.then_ K (below_alloc _ (.cells #[.int .i64 9, .int .u32 0, .bool false, .slice DA Dn Dc, .slice EA En Ec] 34))
      have Y := Bk.new (w7) #[.int .i64 9, .int .u32 0, .bool false, .slice DA Dn Dc, .slice EA En Ec] 34
      try simp only [World.size_alloc] at Y
      generalize (w7).alloc (.cells #[.int .i64 9, .int .u32 0, .bool false, .slice DA Dn Dc, .slice EA En Ec] 34) = w8 at H G F Y hL h I V D E Kr K ⊢
      generalize hgY : w7.heap.size = gY at Y ⊢
      have Y_b : w.heap.size ≤ gY := by omega
      have ne_H_Y : gH ≠ gY := by omega
      have ne_G_Y : gG ≠ gY := by omega
      have ne_F_Y : gF ≠ gY := by omega
      clear KS hgY H_l G_l F_l
      have T4 := rfull_any (sh := sh) (wo := wo) (qu := qu) (tr := tr) hM h hn I (by omega)
      rw [lea_full.1 hl2.out] at T4
      replace T4 := Lib.hid T4
      have Y_0 := Y.at_ (v := .int .i64 9) 0 rfl
      have Y_1 := Y.at_ (v := .int .u32 0) 1 rfl
      have Y_2 := Y.at_ (v := .bool false) 2 rfl
      have Y_3 := Y.at_ (v := .slice DA Dn Dc) 3 rfl
      have Y_4 := Y.at_ (v := .slice EA En Ec) 4 rfl
      have Y_z := Y.lt
      have H_0 := H.at_ (v := .int .u32 (a : Int)) 0 rfl
      have H_1 := H.at_ (v := .int .i64 p) 1 rfl
      have H_2 := H.at_ (v := .slice A n c) 2 rfl
      have H_3 := H.at_ (v := .int .i64 sh) 3 rfl
      have H_4 := H.at_ (v := .int .i64 wo) 4 rfl
      have H_5 := H.at_ (v := .int .i64 qu) 5 rfl
      have H_6 := H.at_ (v := .int .i64 tr) 6 rfl
      have H_z := H.lt
      go_wp2_with fail
      refine (T4.out).mono ?_
      rintro e w9 ⟨rfl, K'⟩
      clear H_0 H_1 H_2 H_3 H_4 H_5 H_6 H_z
      replace H := H.below K'
      replace G := G.below K'
      replace F := F.below K'
      replace Y := Y.below K'
      replace hL := hL.below K'
      replace h := h.below K'
      replace I := I.below K'
      replace V := V.below K'
      replace D := D.below K'
      replace E := E.below K'
      replace Kr := Below.then_ Kr K'
      replace K := Below.then_ K K'
      clear K'
      clear T4
      clear Y_0 Y_1 Y_2 Y_3 Y_4 Y_z
      have c1_ : Vn ≤ 65536 := by have h1 := V.len; omega
      go_wp2_with fail
      refine (ints_same V I c1_).mono ?_
      rintro e w10 ⟨rfl, K'⟩
      replace H := H.below K'
      replace G := G.below K'
      replace F := F.below K'
      replace Y := Y.below K'
      replace hL := hL.below K'
      replace h := h.below K'
      replace I := I.below K'
      replace V := V.below K'
      replace D := D.below K'
      replace E := E.below K'
      replace Kr := Below.then_ Kr K'
      replace K := Below.then_ K K'
      clear K'
      go_wp2
      go_ret
      exact ⟨rfl, K⟩
    | some o =>
      rw [show fullB M zs cur = false from lea_not hl] at T
      replace T := Lib.hid T
      have hstep := Lib.hid (HF.out.step hl)
      have hmore := Lib.hid (fun h0 => HF.out.more hl h0)
      obtain ⟨hoM, hfr, -⟩ := lea_is hl
      have hli := Lib.hid (len_ins_out (mayR_iff.1 hmay.out).1 (fr_iff.1 hfr).2)
      have hl2 := Lib.hid hl
      clear hl hfr
      obtain ⟨Y_, hY_⟩ : ∃ Y : Nat, a + o = Y := ⟨_, rfl⟩
      rw [hY_] at hstep hmore
      have hstn : xs.length + (r + 1) ≤ M := by rw [← hstep.out.len]; exact may_few hris.out hstep.out.may
      have hxm := hs0.len
      have hr256 : r + 1 ≤ 256 := by omega
      have H_0 := H.at_ (v := .int .u32 (a : Int)) 0 rfl
      have H_1 := H.at_ (v := .int .i64 p) 1 rfl
      have H_2 := H.at_ (v := .slice A n c) 2 rfl
      have H_3 := H.at_ (v := .int .i64 sh) 3 rfl
      have H_4 := H.at_ (v := .int .i64 wo) 4 rfl
      have H_5 := H.at_ (v := .int .i64 qu) 5 rfl
      have H_6 := H.at_ (v := .int .i64 tr) 6 rfl
      have H_z := H.lt
      have G_0 := G.at_ (v := .int .i64 1) 0 rfl
      have G_1 := G.at_ (v := .int .u32 0) 1 rfl
      have G_2 := G.at_ (v := .slice none 0 0) 2 rfl
      have G_z := G.lt
      have F_0 := F.at_ (v := .int .i64 9) 0 rfl
      have F_1 := F.at_ (v := .int .u32 0) 1 rfl
      have F_2 := F.at_ (v := .bool false) 2 rfl
      have F_3 := F.at_ (v := .slice none 0 0) 3 rfl
      have F_4 := F.at_ (v := .slice none 0 0) 4 rfl
      have F_z := F.lt
      go_wp2_with fail
      refine (T.out).mono ?_
      clear H_0 H_1 H_2 H_3 H_4 H_5 H_6 H_z
      clear G_0 G_1 G_2 G_z
      clear F_0 F_1 F_2 F_3 F_4 F_z
      rintro e w6 ⟨NA, Nn, Nc, rfl, N, hav, K'⟩
      clear hav N
      replace H := H.below K'
      replace G := G.below K'
      replace F := F.below K'
      replace hL := hL.below K'
      replace h := h.below K'
      replace I := I.below K'
      replace Kr := Below.then_ Kr K'
      replace K := Below.then_ K K'
      clear K'
      clear T
      have T3 := some_at (k := 1) (X := 0) (xi := 0) (sh := sh) (wo := wo) (qu := qu) (tr := tr) hL ha hM h hn I hrl hmay.out rfl (by omega) (IS.none_ .u32 0 _) (by omega) (fun y hy => by cases hy) (show someS a M zs cur 1 0 [] = (ins cur (o : Int), okA (Y_ : Int)) from by rw [someS_1, doS_1, hl2.out]; show (ins cur (o : Int), okA ((a + o : Nat) : Int)) = _; rw [hY_])
      replace T3 := Lib.hid T3
      have H_0 := H.at_ (v := .int .u32 (a : Int)) 0 rfl
      have H_1 := H.at_ (v := .int .i64 p) 1 rfl
      have H_2 := H.at_ (v := .slice A n c) 2 rfl
      have H_3 := H.at_ (v := .int .i64 sh) 3 rfl
      have H_4 := H.at_ (v := .int .i64 wo) 4 rfl
      have H_5 := H.at_ (v := .int .i64 qu) 5 rfl
      have H_6 := H.at_ (v := .int .i64 tr) 6 rfl
      have H_z := H.lt
      have G_0 := G.at_ (v := .int .i64 1) 0 rfl
      have G_1 := G.at_ (v := .int .u32 0) 1 rfl
      have G_2 := G.at_ (v := .slice none 0 0) 2 rfl
      have G_z := G.lt
      go_wp2_with fail
      refine (T3.out).mono ?_
      clear H_0 H_1 H_2 H_3 H_4 H_5 H_6 H_z
      clear G_0 G_1 G_2 G_z
      rintro e w7 ⟨VA, Vn, Vc, DA, Dn, Dc, EA, En, Ec, rfl, V, hav, D, E, K'⟩
      clear hav 
      replace H := H.below K'
      replace G := G.below K'
      replace F := F.below K'
      replace hL := hL.below K'
      replace h := h.below K'
      replace I := I.below K'
      replace Kr := Below.then_ Kr K'
      replace K := Below.then_ K K'
      clear K'
      clear T3
      go_upto_region 12 with (first | (refine wpList_store_row rfl 34 (.tmp 13) (.tmp 44) rfl _ _ rfl (show _ = Value.agg #[.int .i64 0, .int .u32 (Y_ : Int), .bool false, .slice DA Dn Dc, .slice EA En Ec] from rfl) _ _ (Bk.new _ _ _) an_sz rfl (by simp [Value.oneCell']) ?_))
      try rw [World.setRow_alloc_new]
      have KS := K.size
      have H_l := H.lt
      have G_l := G.lt
      have F_l := F.lt
      replace H := H.alloc (.cells #[.int .i64 0, .int .u32 (Y_ : Int), .bool false, .slice DA Dn Dc, .slice EA En Ec] 34)
      replace G := G.alloc (.cells #[.int .i64 0, .int .u32 (Y_ : Int), .bool false, .slice DA Dn Dc, .slice EA En Ec] 34)
      replace F := F.alloc (.cells #[.int .i64 0, .int .u32 (Y_ : Int), .bool false, .slice DA Dn Dc, .slice EA En Ec] 34)
      replace hL := hL.below (below_alloc _ (.cells #[.int .i64 0, .int .u32 (Y_ : Int), .bool false, .slice DA Dn Dc, .slice EA En Ec] 34))
      replace h := h.below (below_alloc _ (.cells #[.int .i64 0, .int .u32 (Y_ : Int), .bool false, .slice DA Dn Dc, .slice EA En Ec] 34))
      replace I := I.below (below_alloc _ (.cells #[.int .i64 0, .int .u32 (Y_ : Int), .bool false, .slice DA Dn Dc, .slice EA En Ec] 34))
      replace V := V.below (below_alloc _ (.cells #[.int .i64 0, .int .u32 (Y_ : Int), .bool false, .slice DA Dn Dc, .slice EA En Ec] 34))
      replace D := D.below (below_alloc _ (.cells #[.int .i64 0, .int .u32 (Y_ : Int), .bool false, .slice DA Dn Dc, .slice EA En Ec] 34))
      replace E := E.below (below_alloc _ (.cells #[.int .i64 0, .int .u32 (Y_ : Int), .bool false, .slice DA Dn Dc, .slice EA En Ec] 34))
      replace Kr := Below.then_ Kr (below_alloc _ (.cells #[.int .i64 0, .int .u32 (Y_ : Int), .bool false, .slice DA Dn Dc, .slice EA En Ec] 34))
      replace K := Below.then_ K (below_alloc _ (.cells #[.int .i64 0, .int .u32 (Y_ : Int), .bool false, .slice DA Dn Dc, .slice EA En Ec] 34))
      have Y := Bk.new (w7) #[.int .i64 0, .int .u32 (Y_ : Int), .bool false, .slice DA Dn Dc, .slice EA En Ec] 34
      try simp only [World.size_alloc] at Y
      generalize (w7).alloc (.cells #[.int .i64 0, .int .u32 (Y_ : Int), .bool false, .slice DA Dn Dc, .slice EA En Ec] 34) = w8 at H G F Y hL h I V D E Kr K ⊢
      generalize hgY : w7.heap.size = gY at Y ⊢
      have Y_b : w.heap.size ≤ gY := by omega
      have ne_H_Y : gH ≠ gY := by omega
      have ne_G_Y : gG ≠ gY := by omega
      have ne_F_Y : gF ≠ gY := by omega
      clear KS hgY H_l G_l F_l
      have T4 := rfull_any (sh := sh) (wo := wo) (qu := qu) (tr := tr) hM h hn I (by omega)
      rw [lea_not hl2.out] at T4
      replace T4 := Lib.hid T4
      have Y_0 := Y.at_ (v := .int .i64 0) 0 rfl
      have Y_1 := Y.at_ (v := .int .u32 (Y_ : Int)) 1 rfl
      have Y_2 := Y.at_ (v := .bool false) 2 rfl
      have Y_3 := Y.at_ (v := .slice DA Dn Dc) 3 rfl
      have Y_4 := Y.at_ (v := .slice EA En Ec) 4 rfl
      have Y_z := Y.lt
      have H_0 := H.at_ (v := .int .u32 (a : Int)) 0 rfl
      have H_1 := H.at_ (v := .int .i64 p) 1 rfl
      have H_2 := H.at_ (v := .slice A n c) 2 rfl
      have H_3 := H.at_ (v := .int .i64 sh) 3 rfl
      have H_4 := H.at_ (v := .int .i64 wo) 4 rfl
      have H_5 := H.at_ (v := .int .i64 qu) 5 rfl
      have H_6 := H.at_ (v := .int .i64 tr) 6 rfl
      have H_z := H.lt
      go_wp2_with fail
      refine (T4.out).mono ?_
      rintro e w9 ⟨rfl, K'⟩
      clear H_0 H_1 H_2 H_3 H_4 H_5 H_6 H_z
      replace H := H.below K'
      replace G := G.below K'
      replace F := F.below K'
      replace Y := Y.below K'
      replace hL := hL.below K'
      replace h := h.below K'
      replace I := I.below K'
      replace V := V.below K'
      replace D := D.below K'
      replace E := E.below K'
      replace Kr := Below.then_ Kr K'
      replace K := Below.then_ K K'
      clear K'
      clear T4
      clear Y_0 Y_1 Y_2 Y_3 Y_4 Y_z
      have hVn : Vn = n1 + 1 := by have h1 := V.len; have h2 := hli.out; omega
      have e1 : IntKind.i64.wrap ((n1 : Int) + 1) = (n1 : Int) + 1 := IntWalk.i64_in _ (by omega)
      have e2 : ((Vn : Int) != (n1 : Int) + 1) = false := by simp; omega
      have e3 : IntKind.i64.wrap ((r : Int) + 1) = ((r + 1 : Nat) : Int) := by rw [IntWalk.i64_in _ (by omega)]; omega
      replace hVn := Lib.hid hVn
      rcases Nat.eq_zero_or_pos r with h0 | h0
      · have e4 : ¬ 0 < r := by omega
        replace h0 := Lib.hid h0
        have Y_0 := Y.at_ (v := .int .i64 0) 0 rfl
        have Y_1 := Y.at_ (v := .int .u32 (Y_ : Int)) 1 rfl
        have Y_2 := Y.at_ (v := .bool false) 2 rfl
        have Y_3 := Y.at_ (v := .slice DA Dn Dc) 3 rfl
        have Y_4 := Y.at_ (v := .slice EA En Ec) 4 rfl
        have Y_z := Y.lt
        go_wp2
        go_roundw
        case rel => exact ⟨r + 1, _, _, _, _, _, hr256, by first | go_num | (rw [e3]), rfl, rfl, Lib.hid V, hstep, Kr⟩
        case measure => simp [intOf]; omega
      · have e5 : decide ((Y_ : Int) ≤ L) = false := by have := hmore.out h0; simp; omega
        have Y_0 := Y.at_ (v := .int .i64 0) 0 rfl
        have Y_1 := Y.at_ (v := .int .u32 (Y_ : Int)) 1 rfl
        have Y_2 := Y.at_ (v := .bool false) 2 rfl
        have Y_3 := Y.at_ (v := .slice DA Dn Dc) 3 rfl
        have Y_4 := Y.at_ (v := .slice EA En Ec) 4 rfl
        have Y_z := Y.lt
        go_wp2
        go_roundw
        case rel => exact ⟨r + 1, _, _, _, _, _, hr256, by first | go_num | (rw [e3]), rfl, rfl, Lib.hid V, hstep, Kr⟩
        case measure => simp [intOf]; omega
theorem walk (a p : Int) (A : Option Addr) (n c : Nat) (z : List Int) (sh wo qu tr : Int) (B : Option Addr) (m d : Nat) (zb : List Int) (w : World) (hL : Laid w) (wa : (Lit.int .u32 a).wf = true) (wr : IsRow .i64 w A n c z) (wb : IsRow .i64 w B m d zb) :
    Calls Tryd.prog 7 #[.agg #[.int .u32 a, .int .i64 p, .slice A n c, .int .i64 sh, .int .i64 wo, .int .i64 qu, .int .i64 tr], .slice B m d] w fun e w' => e = .returned (.bool true) ∧ Below w.heap.size w w' := by
  obtain ⟨a, rfl, ha⟩ := wf_u32 wa
  obtain ⟨zs, h, _⟩ := IS.of_row wr
  obtain ⟨xs, hs, _⟩ := IS.of_row wb
  exact main hL ha h hs
end
end Go.Proofs.YtmakbmmnjbnfiaaDoor.specFull
