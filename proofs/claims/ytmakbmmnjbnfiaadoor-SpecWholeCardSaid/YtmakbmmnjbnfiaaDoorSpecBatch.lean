/-
  What a Batch comes to, by the program: its addresses are given back one behind the other. Conditions: a block that may be; a rising set; at most 60000 addresses.
-/
import Derived.Test.YtmakbmmnjbnfiaaDoorSpecLeast
namespace Go.Proofs.YtmakbmmnjbnfiaaDoor
open Go.RowKit
set_option linter.unusedVariables false
theorem errno_info : (Tryd.prog.info? 31).map (fun i => (i.zero, i.size, i.bytes)) = some (some (Value.int .i64 0), 1, 8) := by kernel_rfl
section
variable {w : World} {lo lo2 lo3 a M m d q f X : Nat} {p sh wo qu tr k : Int} {A B C : Option Addr} {n c : Nat} {zs xs ys : List Int}
set_option maxRecDepth 100000 in
set_option maxHeartbeats 4000000 in
theorem batch_is (ha : a < 4294967296) (hM : Much a p M) (h0 : IS .i64 lo w A n c zs) (hn : n ≤ 65536) (hs0 : IS .i64 lo2 w B m d xs) (hm : m ≤ 60000) (hr : Ris xs) (hX : X < 4294967296) (hy0 : IS .u32 lo3 w C q f ys) (hq : q ≤ 60000) (hw : W32 ys) :
    Calls Tryd.prog 52 #[.agg #[.int .u32 (a : Int), .int .i64 p, .slice A n c, .int .i64 sh, .int .i64 wo, .int .i64 qu, .int .i64 tr], .slice B m d, .agg #[.int .i64 k, .int .u32 (X : Int), .slice C q f]] w (RetSA B m (batS a M xs ys) (0, 0, false, [], batE a M xs ys) w) := by
  obtain ⟨i0, hi, hz0, hz1, hz2⟩ := info_parts errno_info
  have hb8 : i0.bytes * q ≤ 281474976710656 := by rw [hz2]; omega
  have hml := hs0.len
  have hl := Lib.hid hy0.len
  replace hw := Lib.hid hw
  replace hr := Lib.hid hr
  have RS : ∀ k, Hid (Ris (batS a M xs (ys.take k))) := fun k => Lib.hid (batS_ris _ hr.out)
  have RL : ∀ k, Hid ((batS a M xs (ys.take k)).length ≤ m) := fun k => Lib.hid (by rw [← hml]; exact batS_len _)
  have h := h0
  have hs := hs0
  have hy := hy0
  have K := Below.refl w.heap.size w
  go_enter Tryd.func52, Tryd.ntmps52
  go_upto_region 1 with (fail)
  have KS := K.size
  replace h := h.below (below_alloc _ (.cells #[.int .u32 (a : Int), .int .i64 p, .slice A n c, .int .i64 sh, .int .i64 wo, .int .i64 qu, .int .i64 tr] 27))
  replace hs := hs.below (below_alloc _ (.cells #[.int .u32 (a : Int), .int .i64 p, .slice A n c, .int .i64 sh, .int .i64 wo, .int .i64 qu, .int .i64 tr] 27))
  replace hy := hy.below (below_alloc _ (.cells #[.int .u32 (a : Int), .int .i64 p, .slice A n c, .int .i64 sh, .int .i64 wo, .int .i64 qu, .int .i64 tr] 27))
  replace K := Below.then_ K (below_alloc _ (.cells #[.int .u32 (a : Int), .int .i64 p, .slice A n c, .int .i64 sh, .int .i64 wo, .int .i64 qu, .int .i64 tr] 27))
  have H := Bk.new (w) #[.int .u32 (a : Int), .int .i64 p, .slice A n c, .int .i64 sh, .int .i64 wo, .int .i64 qu, .int .i64 tr] 27
  replace H := H.alloc (.cells #[.int .i64 k, .int .u32 (X : Int), .slice C q f] 30)
  replace h := h.below (below_alloc _ (.cells #[.int .i64 k, .int .u32 (X : Int), .slice C q f] 30))
  replace hs := hs.below (below_alloc _ (.cells #[.int .i64 k, .int .u32 (X : Int), .slice C q f] 30))
  replace hy := hy.below (below_alloc _ (.cells #[.int .i64 k, .int .u32 (X : Int), .slice C q f] 30))
  replace K := Below.then_ K (below_alloc _ (.cells #[.int .i64 k, .int .u32 (X : Int), .slice C q f] 30))
  have G := Bk.new ((w).alloc (.cells #[.int .u32 (a : Int), .int .i64 p, .slice A n c, .int .i64 sh, .int .i64 wo, .int .i64 qu, .int .i64 tr] 27)) #[.int .i64 k, .int .u32 (X : Int), .slice C q f] 30
  replace H := H.alloc (.cells #[.int .i64 0, .int .u32 0, .bool false, .slice none 0 0, .slice none 0 0] 34)
  replace G := G.alloc (.cells #[.int .i64 0, .int .u32 0, .bool false, .slice none 0 0, .slice none 0 0] 34)
  replace h := h.below (below_alloc _ (.cells #[.int .i64 0, .int .u32 0, .bool false, .slice none 0 0, .slice none 0 0] 34))
  replace hs := hs.below (below_alloc _ (.cells #[.int .i64 0, .int .u32 0, .bool false, .slice none 0 0, .slice none 0 0] 34))
  replace hy := hy.below (below_alloc _ (.cells #[.int .i64 0, .int .u32 0, .bool false, .slice none 0 0, .slice none 0 0] 34))
  replace K := Below.then_ K (below_alloc _ (.cells #[.int .i64 0, .int .u32 0, .bool false, .slice none 0 0, .slice none 0 0] 34))
  have R := Bk.new (((w).alloc (.cells #[.int .u32 (a : Int), .int .i64 p, .slice A n c, .int .i64 sh, .int .i64 wo, .int .i64 qu, .int .i64 tr] 27)).alloc (.cells #[.int .i64 k, .int .u32 (X : Int), .slice C q f] 30)) #[.int .i64 0, .int .u32 0, .bool false, .slice none 0 0, .slice none 0 0] 34
  try simp only [World.size_alloc] at H G R
  generalize (((w).alloc (.cells #[.int .u32 (a : Int), .int .i64 p, .slice A n c, .int .i64 sh, .int .i64 wo, .int .i64 qu, .int .i64 tr] 27)).alloc (.cells #[.int .i64 k, .int .u32 (X : Int), .slice C q f] 30)).alloc (.cells #[.int .i64 0, .int .u32 0, .bool false, .slice none 0 0, .slice none 0 0] 34) = w1 at H G R h hs hy K ⊢
  generalize hgR : w.heap.size + 1 + 1 = gR at H G R ⊢
  generalize hgG : w.heap.size + 1 = gG at H G R ⊢
  generalize hgH : w.heap.size = gH at H G R ⊢
  have H_b : w.heap.size ≤ gH := by omega
  have G_b : w.heap.size ≤ gG := by omega
  have R_b : w.heap.size ≤ gR := by omega
  have ne_H_G : gH ≠ gG := by omega
  have ne_H_R : gH ≠ gR := by omega
  have ne_G_R : gG ≠ gR := by omega
  clear KS hgH hgG hgR 
  have G_0 := G.at_ (v := .int .i64 k) 0 rfl
  have G_1 := G.at_ (v := .int .u32 (X : Int)) 1 rfl
  have G_2 := G.at_ (v := .slice C q f) 2 rfl
  have G_z := G.lt
  go_upto_region 2 with (at_make; refine wpList_make_full _ rfl (.tmp 14) (.tmp 14) _ rfl w1.heap.size 31 i0 _ 1 Tryd.underlying32 hi hz0 hz1 .i64 .i64 _ _ q rfl rfl rfl rfl hb8 (by unfold maxLen; omega) (Nat.le_refl _) ?_; intro w3 hown1 hg1; have L := Bi.of_made hown1; clear hown1)
  clear G_0 G_1 G_2 G_z
  have K1 : Below w1.heap.size w1 w3 := (Below.refl _ _).grown hg1 (Nat.le_refl _) (by simp)
  clear hg1 hi hz0 hz1 hz2 hb8
  rw [← bek_start (a := a) (M := M) (xs := xs) ys q] at L
  have KS := K.size
  have ne_H_L : gH ≠ w1.heap.size := by have := H.lt; omega
  have ne_G_L : gG ≠ w1.heap.size := by have := G.lt; omega
  have ne_R_L : gR ≠ w1.heap.size := by have := R.lt; omega
  have L_b : w.heap.size ≤ w1.heap.size := KS
  have avL := Lib.hid (hs.av_old (Nat.le_refl w1.heap.size))
  have avR := Lib.hid (hs0.av_old R_b)
  generalize w1.heap.size = gL at L ne_H_L ne_G_L ne_R_L L_b avL ⊢
  replace H := H.below K1
  replace G := G.below K1
  replace R := R.below K1
  replace h := h.below K1
  replace hs := hs.below K1
  replace hy := hy.below K1
  replace K := Below.then_ K K1
  clear K1 KS
  have G_0 := G.at_ (v := .int .i64 k) 0 rfl
  have G_1 := G.at_ (v := .int .u32 (X : Int)) 1 rfl
  have G_2 := G.at_ (v := .slice C q f) 2 rfl
  have G_z := G.lt
  go_wp2
  clear G_0 G_1 G_2 G_z
  go_loopw [1, 19] (fun s i wr => ∃ (r n1 c1 : Nat) (S : Option Addr), r ≤ q ∧ i = .int .i64 r ∧ s = .slice S n1 c1 ∧ Hid (IS .i64 0 wr S n1 c1 (batS a M xs (ys.take r))) ∧ Hid (Av gR S n1) ∧ Hid (Av gL S n1) ∧ Hid (∀ g, g < w.heap.size → Av g B m → Av g S n1) ∧ Hid (Bi .i64 wr gL 31 (bek a M xs ys q r)) ∧ Hid (Bk wr gH 27 #[.int .u32 (a : Int), .int .i64 p, .slice A n c, .int .i64 sh, .int .i64 wo, .int .i64 qu, .int .i64 tr]) ∧ Hid (Bk wr gG 30 #[.int .i64 k, .int .u32 (X : Int), .slice C q f]) ∧ Hid (Bk wr gR 34 #[.int .i64 0, .int .u32 0, .bool false, .slice none 0 0, .slice none 0 0]) ∧ Below w.heap.size w wr) (fun _ i _ => q - (intOf i).toNat)
  case atStart => exact ⟨0, m, d, B, Nat.zero_le _, rfl, rfl, Lib.hid (hs.lower (Nat.zero_le _)), avR, avL, Lib.hid (fun _ _ h => h), Lib.hid L, Lib.hid H, Lib.hid G, Lib.hid R, K⟩
  case round =>
    clear L H G R K h hs hy avR avL
    obtain ⟨k_, n1, c1, S, hk, rfl, rfl, HS, avR, avL, avO, HL, HH, HG, HR, K⟩ := hrel
    have H := HH.out
    have G := HG.out
    have R := HR.out
    have L : Bk wr gL 31 ((bek a M xs ys q k_).map (iv .i64)).toArray := HL.out
    have h := h0.below K
    have hy := hy0.below K
    have HI := HS.out
    clear HH HG HR HL HS
    by_cases hlt : k_ < q
    · obtain ⟨y, hy1, hyb⟩ := hw.out.at_ (k := k_) (by have := hl.out; omega)
      obtain ⟨b, o, rfl, _, hc⟩ := hy.get hlt
      rw [hy1] at hc
      obtain ⟨v, hv⟩ : ∃ v, ofO a M y = v := ⟨_, rfl⟩
      obtain ⟨E, hE⟩ : ∃ E, reE (batS a M xs (ys.take k_)) v = E := ⟨_, rfl⟩
      have hset := Lib.hid (bek_set (a := a) (M := M) (xs := xs) (k := k_) hl.out hlt)
      have htk := Lib.hid (batS_take (a := a) (M := M) (xs := xs) (ys := ys) (k := k_) (by have := hl.out; omega))
      have hset2 : Hid ((bek a M xs ys q k_).set k_ E = bek a M xs ys q (k_ + 1)) := Lib.hid (by have := hset.out; rw [hy1, show ((y : Int)).toNat = y from rfl, hv, hE] at this; exact this)
      have htk2 : Hid (batS a M xs (ys.take (k_ + 1)) = del (batS a M xs (ys.take k_)) v) := Lib.hid (by have := htk.out; rw [hy1, show ((y : Int)).toNat = y from rfl, hv] at this; exact this)
      have hbl := bek_len (a := a) (M := M) (xs := xs) (k := k_) hl.out hk
      clear hset htk hy1
      have hn1 : n1 ≤ 60000 := by have h1 := (RL k_).out; have h2 := HI.len; omega
      have HI_O := HI.av_old (Nat.le_refl wr.heap.size)
      replace hE := Lib.hid hE
      go_upto_region 6 with (fail)
      have KS := K.size
      have H_l := H.lt
      have G_l := G.lt
      have R_l := R.lt
      have L_l := L.lt
      replace H := H.alloc (.cells #[.int .i64 0, .int .u32 0, .bool false, .slice none 0 0, .slice none 0 0] 34)
      replace G := G.alloc (.cells #[.int .i64 0, .int .u32 0, .bool false, .slice none 0 0, .slice none 0 0] 34)
      replace R := R.alloc (.cells #[.int .i64 0, .int .u32 0, .bool false, .slice none 0 0, .slice none 0 0] 34)
      replace L := L.alloc (.cells #[.int .i64 0, .int .u32 0, .bool false, .slice none 0 0, .slice none 0 0] 34)
      replace h := h.below (below_alloc _ (.cells #[.int .i64 0, .int .u32 0, .bool false, .slice none 0 0, .slice none 0 0] 34))
      replace hy := hy.below (below_alloc _ (.cells #[.int .i64 0, .int .u32 0, .bool false, .slice none 0 0, .slice none 0 0] 34))
      replace HI := HI.below (below_alloc _ (.cells #[.int .i64 0, .int .u32 0, .bool false, .slice none 0 0, .slice none 0 0] 34))
      replace K := Below.then_ K (below_alloc _ (.cells #[.int .i64 0, .int .u32 0, .bool false, .slice none 0 0, .slice none 0 0] 34))
      have O := Bk.new (wr) #[.int .i64 0, .int .u32 0, .bool false, .slice none 0 0, .slice none 0 0] 34
      try simp only [World.size_alloc] at O
      generalize (wr).alloc (.cells #[.int .i64 0, .int .u32 0, .bool false, .slice none 0 0, .slice none 0 0] 34) = w4 at H G R L O h hy HI K ⊢
      generalize hgO : wr.heap.size = gO at O HI_O ⊢
      have O_b : w.heap.size ≤ gO := by omega
      have ne_H_O : gH ≠ gO := by omega
      have ne_G_O : gG ≠ gO := by omega
      have ne_R_O : gR ≠ gO := by omega
      have ne_L_O : gL ≠ gO := by omega
      clear KS hgO H_l G_l R_l L_l
      have T := release_is (k := 3) (C := none) (q := 0) (f := 0) (sh := sh) (wo := wo) (qu := qu) (tr := tr) ha hM h hn HI hn1 (RS k_).out hyb hv
      rw [hE.out, ← htk2.out] at T
      replace T := Lib.hid T
      have H_0 := H.at_ (v := .int .u32 (a : Int)) 0 rfl
      have H_1 := H.at_ (v := .int .i64 p) 1 rfl
      have H_2 := H.at_ (v := .slice A n c) 2 rfl
      have H_3 := H.at_ (v := .int .i64 sh) 3 rfl
      have H_4 := H.at_ (v := .int .i64 wo) 4 rfl
      have H_5 := H.at_ (v := .int .i64 qu) 5 rfl
      have H_6 := H.at_ (v := .int .i64 tr) 6 rfl
      have H_z := H.lt
      have O_l2 := O.lt
      go_wp2_with fail
      refine T.out.mono ?_
      clear O_l2
      clear H_0 H_1 H_2 H_3 H_4 H_5 H_6 H_z
      have H_l := H.lt
      have G_l := G.lt
      have R_l := R.lt
      have L_l := L.lt
      have O_l := O.lt
      rintro e w5 ⟨S1A, S1n, S1c, DA, Dn, Dc, E1A, E1n, E1c, rfl, S1, hav, D, E1, K'⟩
      have D_H := D.av H_l
      have E1_H := E1.av H_l
      have D_G := D.av G_l
      have E1_G := E1.av G_l
      have S1_R := hav gR R_l avR.out
      have D_R := D.av R_l
      have E1_R := E1.av R_l
      have S1_L := hav gL L_l avL.out
      have D_L := D.av L_l
      have E1_L := E1.av L_l
      have S1_O := hav gO O_l HI_O
      have D_O := D.av O_l
      have E1_O := E1.av O_l
      have hav2 : ∀ g, g < w.heap.size → Av g S n1 → Av g S1A S1n := fun g hg => hav g (Nat.lt_of_lt_of_le hg K.size)
      clear hav H_l G_l R_l L_l O_l
      replace D := D.lower (Nat.zero_le _)
      replace E1 := E1.lower (Nat.zero_le _)
      replace H := H.below K'
      replace G := G.below K'
      replace R := R.below K'
      replace L := L.below K'
      replace O := O.below K'
      replace h := h.below K'
      replace hy := hy.below K'
      replace HI := HI.below K'
      replace K := Below.then_ K K'
      clear K'
      clear T
      have avO2 : Hid (∀ g, g < w.heap.size → Av g B m → Av g S1A S1n) := Lib.hid (fun g hg hB => hav2 g hg (avO.out g hg hB))
      clear D D_H D_G D_R D_L D_O
      clear E1 E1_H E1_G E1_R E1_L E1_O
      clear HI
      go_upto_region 7 with (refine wpList_store_row rfl 34 (.tmp 11) (.tmp 31) rfl gO _ rfl (show _ = Value.agg #[.int .i64 E, .int .u32 0, .bool false, .slice DA Dn Dc, .slice E1A E1n E1c] from rfl) _ _ O an_sz rfl (by simp [Value.oneCell']) ?_)
      replace H := H.row_far ne_H_O #[.int .i64 E, .int .u32 0, .bool false, .slice DA Dn Dc, .slice E1A E1n E1c]
      replace G := G.row_far ne_G_O #[.int .i64 E, .int .u32 0, .bool false, .slice DA Dn Dc, .slice E1A E1n E1c]
      replace R := R.row_far ne_R_O #[.int .i64 E, .int .u32 0, .bool false, .slice DA Dn Dc, .slice E1A E1n E1c]
      replace L := L.row_far ne_L_O #[.int .i64 E, .int .u32 0, .bool false, .slice DA Dn Dc, .slice E1A E1n E1c]
      replace O := O.row #[.int .i64 E, .int .u32 0, .bool false, .slice DA Dn Dc, .slice E1A E1n E1c]
      replace S1 := S1.row_av S1_O #[.int .i64 E, .int .u32 0, .bool false, .slice DA Dn Dc, .slice E1A E1n E1c]
      replace K := below_setRow K O_b #[.int .i64 E, .int .u32 0, .bool false, .slice DA Dn Dc, .slice E1A E1n E1c]
      replace h := h0.below K
      replace hy := hy0.below K
      generalize w5.setRow gO #[.int .i64 E, .int .u32 0, .bool false, .slice DA Dn Dc, .slice E1A E1n E1c] = w6 at H G R L O h hy S1 K ⊢
      have O_0 := O.at_ (v := .int .i64 E) 0 rfl
      have O_z := O.lt
      have c1 := Bi.cell (k := .i64) (i := k_) L (by omega)
      have f1 := Bk.fz L k_
      go_wp2
      clear O_0 O_z c1 f1
      replace H := H.far (p := ⟨gL, k_, none⟩) ne_H_L (.int .i64 E)
      replace G := G.far (p := ⟨gL, k_, none⟩) ne_G_L (.int .i64 E)
      replace R := R.far (p := ⟨gL, k_, none⟩) ne_R_L (.int .i64 E)
      have L5 := Bi.set_ (k := .i64) L k_ E
      rw [hset2.out] at L5
      replace S1 := S1.cell_av (p := ⟨gL, k_, none⟩) S1_L (.int .i64 E)
      replace K := K.setCell (p := ⟨gL, k_, none⟩) L_b (.int .i64 E)
      clear L O h hy
      generalize w6.setCell ⟨gL, k_, none⟩ (.int .i64 E) = w9 at H G R L5 S1 K ⊢
      go_roundw
      case rel => exact ⟨k_ + 1, _, _, _, by omega, by go_num, rfl, Lib.hid S1, Lib.hid S1_R, Lib.hid S1_L, avO2, Lib.hid L5, Lib.hid H, Lib.hid G, Lib.hid R, K⟩
      case measure => simp [intOf]; omega
    · obtain rfl : k_ = q := by omega
      have L5 := Bi.is (k := .i64) L (bek_len hl.out (Nat.le_refl _)) (by omega)
      rw [bek_end hl.out] at L5
      rw [List.take_of_length_le (by have := hl.out; omega)] at HI
      have E5 : IS .i64 gL wr (some ⟨gL, 0, none⟩) k_ k_ (batE a M xs ys) := ⟨L5.len, Nat.le_refl _, by unfold maxLen; omega, (fun e => by cases e), fun hq => by
        obtain ⟨b, o, e, _, r⟩ := L5.cells hq
        cases e
        exact ⟨gL, 0, rfl, Nat.le_refl _, r⟩⟩
      have E5_R : Av gR (some ⟨gL, 0, none⟩) k_ := fun _ b o e => by cases e; exact Ne.symm ne_R_L
      have HI_R := avR.out
      clear L5 L
      go_wp2_with (refine wpList_store_row rfl 34 (.tmp 7) (.tmp 40) rfl gR _ rfl (show _ = Value.agg #[.int .i64 0, .int .u32 0, .bool false, .slice none 0 0, .slice (some ⟨gL, 0, none⟩) k_ k_] from rfl) _ _ R an_sz rfl (by simp [Value.oneCell']) ?_)
      replace H := H.row_far ne_H_R #[.int .i64 0, .int .u32 0, .bool false, .slice none 0 0, .slice (some ⟨gL, 0, none⟩) k_ k_]
      replace G := G.row_far ne_G_R #[.int .i64 0, .int .u32 0, .bool false, .slice none 0 0, .slice (some ⟨gL, 0, none⟩) k_ k_]
      replace R := R.row #[.int .i64 0, .int .u32 0, .bool false, .slice none 0 0, .slice (some ⟨gL, 0, none⟩) k_ k_]
      replace HI := HI.row_av HI_R #[.int .i64 0, .int .u32 0, .bool false, .slice none 0 0, .slice (some ⟨gL, 0, none⟩) k_ k_]
      replace E5 := E5.row_av E5_R #[.int .i64 0, .int .u32 0, .bool false, .slice none 0 0, .slice (some ⟨gL, 0, none⟩) k_ k_]
      replace K := below_setRow K R_b #[.int .i64 0, .int .u32 0, .bool false, .slice none 0 0, .slice (some ⟨gL, 0, none⟩) k_ k_]
      replace h := h0.below K
      replace hy := hy0.below K
      generalize wr.setRow gR #[.int .i64 0, .int .u32 0, .bool false, .slice none 0 0, .slice (some ⟨gL, 0, none⟩) k_ k_] = w4 at H G R h hy HI E5 K ⊢
      refine bodyPost_ret (v := .tuple #[.slice S n1 c1, .agg #[.int .i64 0, .int .u32 0, .bool false, .slice none 0 0, .slice (some ⟨gL, 0, none⟩) k_ k_]]) ?_ rfl ?_
      · exact results_tc (fn := Tryd.f52) Tryd.results52 _ _ gR _ _ (0, 0) _ rfl R Tryd.underlying34 rfl an_sz
      exact ⟨_, _, _, _, _, _, _, _, _, rfl, HI, avO.out, IS.none_ _ _ _, E5.lower L_b, K⟩
theorem batch_any (ha : a < 4294967296) (hM : Much a p M) (h0 : IS .i64 lo w A n c zs) (hn : n ≤ 65536) (hs0 : IS .i64 lo2 w B m d xs) (hm : m ≤ 60000) (hr : Ris xs) (hX : X < 4294967296) (hy0 : IS .u32 lo3 w C q f ys) (hq : q ≤ 60000) (hw : W32 ys) :
    Calls Tryd.prog 52 #[.agg #[.int .u32 (a : Int), .int .i64 p, .slice A n c, .int .i64 sh, .int .i64 wo, .int .i64 qu, .int .i64 tr], .slice B m d, .agg #[.int .i64 k, .int .u32 (X : Int), .slice C q f]] w (RetSA B m (doS a M zs xs 4 X ys).1 (doS a M zs xs 4 X ys).2 w) := by
  rw [doS_4]; exact batch_is ha hM h0 hn hs0 hm hr hX hy0 hq hw
end
end Go.Proofs.YtmakbmmnjbnfiaaDoor
