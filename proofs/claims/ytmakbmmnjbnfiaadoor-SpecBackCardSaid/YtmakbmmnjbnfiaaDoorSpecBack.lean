/-
  The walk of the law SpecBack: for every configuration, list, address and list of addresses it answers true.
-/
import Derived.Test.YtmakbmmnjbnfiaaDoorSpecFacts
namespace Go.Proofs.YtmakbmmnjbnfiaaDoor.specBack
open Go.RowKit
set_option linter.unusedVariables false
section
variable {w : World} {lo lo2 lo3 lo4 lo5 a m d q f X p1 p2 q1 q2 : Nat} {p sh wo qu tr k : Int} {A B C P Q : Option Addr} {n c : Nat} {zs xs ys : List Int} {x : An}
theorem some_exact {M Y : Nat} (hf : fiE a M Y zs = 0) : someS a M zs xs 2 Y ys = if hasB xs (ofO a M Y) = true then (xs, an0 5) else (ins xs (ofO a M Y), okA (Y : Int)) := by
  unfold someS
  rw [if_pos (by rw [askE_one (.inl rfl)]; exact hf), doS_2]
theorem some_release {M Y : Nat} (hf : fiE a M Y zs = 0) : someS a M zs xs 3 Y ys = (del xs (ofO a M Y), an0 (reE xs (ofO a M Y))) := by
  unfold someS
  rw [if_pos (by rw [askE_one (.inr (.inl rfl))]; exact hf), doS_3]
/-- What an Exact makes of the set. -/
theorem exact_then {M Y : Nat} (hx : mayR M zs 0 xs = true) (hf : fiE a M Y zs = 0) : ∃ tS ax, someS a M zs xs 2 Y ([] : List Int) = (tS, ax) ∧ hasB tS (ofO a M Y) = true ∧ (ax.1 = 0 → del tS (ofO a M Y) = xs) ∧ mayR M zs 0 tS = true ∧ ax.2.2.2.1 = [] ∧ ax.2.2.2.2 = [] := by
  have hr := (mayR_iff.1 hx).1
  have hm := some_may (a := a) (k := 2) (X := Y) (ys := []) hx
  rw [some_exact hf] at hm ⊢
  cases hb : hasB xs (ofO a M Y) with
  | true => exact ⟨xs, an0 5, rfl, hb, fun h => absurd h (by show ¬ (5 : Int) = 0; omega), hx, rfl, rfl⟩
  | false =>
    rw [hb] at hm
    exact ⟨_, _, rfl, has_ins, fun _ => del_ins hr hb, hm, rfl, rfl⟩
theorem bat_ok {M : Nat} (h : askE a M zs 4 ((0 : Nat) : Int) ys = 0) : someS a M zs xs 4 0 ys = (batS a M xs ys, (0, 0, false, [], batE a M xs ys)) ∧ ∀ y ∈ ys, fiE a M y.toNat zs = 0 := by
  refine ⟨by unfold someS; rw [if_pos h, doS_4], fun y hy => ?_⟩
  obtain ⟨_, _, _, h4⟩ := askE_ok h
  rw [nmI_all] at h4
  exact ((chk_ok h4).1 y hy).1
theorem batE_at {M : Nat} : ∀ (l : List Int) {xs : List Int} {r : Nat}, r < l.length → gi (batE a M xs l) r = reE (batS a M xs (l.take r)) (ofO a M (gi l r).toNat)
  | [], _, _, h => absurd h (by simp)
  | y :: l, xs, 0, _ => rfl
  | y :: l, xs, r + 1, h => by
    have := batE_at (M := M) l (xs := del xs (ofO a M y.toNat)) (r := r) (by simpa using h)
    unfold batE
    rw [List.take_succ_cons]
    show gi (batE a M (del xs (ofO a M y.toNat)) l) r = _
    rw [this]
    rfl
set_option maxRecDepth 100000 in
set_option maxHeartbeats 4000000 in
theorem main (hL0 : Laid w) (ha : a < 4294967296) (h0 : IS .i64 lo w A n c zs) (hs0 : IS .i64 lo2 w B m d xs) (hy0 : IS .u32 lo3 w C q f ys) (hw : W32 ys) {Y : Nat} (hY : Y < 4294967296) :
    Calls Tryd.prog 5 #[.agg #[.int .u32 (a : Int), .int .i64 p, .slice A n c, .int .i64 sh, .int .i64 wo, .int .i64 qu, .int .i64 tr], .slice B m d, .int .u32 (Y : Int), .slice C q f] w (RetBo true w) := by
  replace hw := Lib.hid hw
  have hL := hL0
  have h := h0
  have hs := hs0
  have hy := hy0
  have K := Below.refl w.heap.size w
  go_enter Tryd.func5, Tryd.ntmps5
  go_upto_region 1 with (fail)
  have KS := K.size
  replace hL := hL.below (below_alloc _ (.cells #[.int .u32 (a : Int), .int .i64 p, .slice A n c, .int .i64 sh, .int .i64 wo, .int .i64 qu, .int .i64 tr] 27))
  replace h := h.below (below_alloc _ (.cells #[.int .u32 (a : Int), .int .i64 p, .slice A n c, .int .i64 sh, .int .i64 wo, .int .i64 qu, .int .i64 tr] 27))
  replace hs := hs.below (below_alloc _ (.cells #[.int .u32 (a : Int), .int .i64 p, .slice A n c, .int .i64 sh, .int .i64 wo, .int .i64 qu, .int .i64 tr] 27))
  replace hy := hy.below (below_alloc _ (.cells #[.int .u32 (a : Int), .int .i64 p, .slice A n c, .int .i64 sh, .int .i64 wo, .int .i64 qu, .int .i64 tr] 27))
  replace K := Below.then_ K (below_alloc _ (.cells #[.int .u32 (a : Int), .int .i64 p, .slice A n c, .int .i64 sh, .int .i64 wo, .int .i64 qu, .int .i64 tr] 27))
  have H := Bk.new (w) #[.int .u32 (a : Int), .int .i64 p, .slice A n c, .int .i64 sh, .int .i64 wo, .int .i64 qu, .int .i64 tr] 27
  try simp only [World.size_alloc] at H
  generalize (w).alloc (.cells #[.int .u32 (a : Int), .int .i64 p, .slice A n c, .int .i64 sh, .int .i64 wo, .int .i64 qu, .int .i64 tr] 27) = w1 at H hL h hs hy K ⊢
  generalize hgH : w.heap.size = gH at H ⊢
  have H_b : w.heap.size ≤ gH := by omega
  clear KS hgH 
  go_wp2_with fail
  refine (awake_any _ hL).mono ?_
  rintro e w2 ⟨rfl, K'⟩
  replace H := H.below K'
  replace hL := hL.below K'
  replace h := h.below K'
  replace hs := hs.below K'
  replace hy := hy.below K'
  replace K := Below.then_ K K'
  clear K'
  have H_0 := H.at_ (v := .int .u32 (a : Int)) 0 rfl
  have H_1 := H.at_ (v := .int .i64 p) 1 rfl
  have H_2 := H.at_ (v := .slice A n c) 2 rfl
  have H_3 := H.at_ (v := .int .i64 sh) 3 rfl
  have H_4 := H.at_ (v := .int .i64 wo) 4 rfl
  have H_5 := H.at_ (v := .int .i64 qu) 5 rfl
  have H_6 := H.at_ (v := .int .i64 tr) 6 rfl
  have H_z := H.lt
  go_wp2_with fail
  refine (fits11_any ha h hs).mono ?_
  rintro e w3 ⟨bo, rfl, hB_, K'⟩
  clear H_0 H_1 H_2 H_3 H_4 H_5 H_6 H_z
  replace H := H.below K'
  replace hL := hL.below K'
  replace h := h.below K'
  replace hs := hs.below K'
  replace hy := hy.below K'
  replace K := Below.then_ K K'
  clear K'
  rcases bo with _ | _
  · clear hB_
    go_wp2_with fail
    refine (awake_any _ hL).mono ?_
    rintro e w4 ⟨rfl, K'⟩
    replace H := H.below K'
    replace hL := hL.below K'
    replace h := h.below K'
    replace hs := hs.below K'
    replace hy := hy.below K'
    replace K := Below.then_ K K'
    clear K'
    go_wp2
    go_ret
    exact ⟨rfl, K⟩
  obtain ⟨M, hC, hM2, hm3, hx_⟩ := hB_ rfl
  clear hB_
  have hM := hC.much
  have hMm := hM.most
  have hn : n ≤ 65536 := by have := hC.few; omega
  have hris := Lib.hid hC.ris
  have hx := Lib.hid hx_
  have hr := Lib.hid (mayR_iff.1 hx_).1
  clear hx_ hC
  have hm : m ≤ 60000 := by omega
  rcases Nat.lt_or_ge 64 q with hq64 | hq64
  · have e1 : decide ((64 : Int) < (q : Int)) = true := by simp; omega
    go_wp2_with fail
    refine (awake_any _ hL).mono ?_
    rintro e w4 ⟨rfl, K'⟩
    replace H := H.below K'
    replace hL := hL.below K'
    replace h := h.below K'
    replace hs := hs.below K'
    replace hy := hy.below K'
    replace K := Below.then_ K K'
    clear K'
    go_wp2
    go_ret
    exact ⟨rfl, K⟩
  have e1 : decide ((64 : Int) < (q : Int)) = false := by simp; omega
  have T := rfind_any (p := p) (sh := sh) (wo := wo) (qu := qu) (tr := tr) Y hY hM h hn
  obtain ⟨E_, hE_⟩ : ∃ e, fiE a M Y zs = e := ⟨_, rfl⟩
  rw [hE_] at T
  replace T := Lib.hid T
  replace hE_ := Lib.hid hE_
  have H_0 := H.at_ (v := .int .u32 (a : Int)) 0 rfl
  have H_1 := H.at_ (v := .int .i64 p) 1 rfl
  have H_2 := H.at_ (v := .slice A n c) 2 rfl
  have H_3 := H.at_ (v := .int .i64 sh) 3 rfl
  have H_4 := H.at_ (v := .int .i64 wo) 4 rfl
  have H_5 := H.at_ (v := .int .i64 qu) 5 rfl
  have H_6 := H.at_ (v := .int .i64 tr) 6 rfl
  have H_z := H.lt
  go_wp2_with fail
  refine (T.out).mono ?_
  rintro e w4 ⟨rfl, K'⟩
  clear H_0 H_1 H_2 H_3 H_4 H_5 H_6 H_z
  replace H := H.below K'
  replace hL := hL.below K'
  replace h := h.below K'
  replace hs := hs.below K'
  replace hy := hy.below K'
  replace K := Below.then_ K K'
  clear K'
  clear T
  by_cases hE0 : E_ = 0
  · subst hE0
    obtain ⟨tS, ax, hS1, hin, hback, htm, hax1, hax2⟩ := exact_then hx.out hE_.out
    have hre : reE tS (ofO a M Y) = 0 := by unfold reE; rw [hin]; rfl
    have hS2 := Lib.hid (show someS a M zs tS 3 Y [] = (del tS (ofO a M Y), an0 0) from by rw [some_release hE_.out, hre])
    have hS3 := Lib.hid (show someS a M zs tS 2 Y [] = (tS, an0 5) from by rw [some_exact hE_.out, if_pos hin])
    have hS4 := Lib.hid (show someS a M zs (del tS (ofO a M Y)) 3 Y [] = (del (del tS (ofO a M Y)) (ofO a M Y), an0 6) from by rw [some_release hE_.out]; unfold reE; rw [has_del]; rfl)
    have hdm := Lib.hid (del_may (o := ofO a M Y) htm)
    have hl1 := may_few hris.out htm
    have hl2 := may_few hris.out hdm.out
    replace hS1 := Lib.hid hS1
    replace hback := Lib.hid hback
    replace htm := Lib.hid htm
    have hax1 := Lib.hid hax1
    have hax2 := Lib.hid hax2
    clear hin hre
    go_upto_region 7 with (first | (refine wpList_store_row rfl 30 (.tmp 11) (.tmp 51) rfl _ _ rfl (show _ = Value.agg #[.int .i64 2, .int .u32 (Y : Int), .slice none 0 0] from rfl) _ _ (Bk.new _ _ _) ak_sz rfl (by simp [Value.oneCell']) ?_))
    try rw [World.setRow_alloc_new]
    have KS := K.size
    have H_l := H.lt
    replace H := H.alloc (.cells #[.int .i64 2, .int .u32 (Y : Int), .slice none 0 0] 30)
    replace hL := hL.below (below_alloc _ (.cells #[.int .i64 2, .int .u32 (Y : Int), .slice none 0 0] 30))
    replace h := h.below (below_alloc _ (.cells #[.int .i64 2, .int .u32 (Y : Int), .slice none 0 0] 30))
    replace hs := hs.below (below_alloc _ (.cells #[.int .i64 2, .int .u32 (Y : Int), .slice none 0 0] 30))
    replace hy := hy.below (below_alloc _ (.cells #[.int .i64 2, .int .u32 (Y : Int), .slice none 0 0] 30))
    replace K := Below.then_ K (below_alloc _ (.cells #[.int .i64 2, .int .u32 (Y : Int), .slice none 0 0] 30))
    have G1 := Bk.new (w4) #[.int .i64 2, .int .u32 (Y : Int), .slice none 0 0] 30
    try simp only [World.size_alloc] at G1
    generalize (w4).alloc (.cells #[.int .i64 2, .int .u32 (Y : Int), .slice none 0 0] 30) = w5 at H G1 hL h hs hy K ⊢
    generalize hgG1 : w4.heap.size = gG1 at G1 ⊢
    have G1_b : w.heap.size ≤ gG1 := by omega
    have ne_H_G1 : gH ≠ gG1 := by omega
    clear KS hgG1 H_l
    go_upto_region 8 with (first | (refine wpList_store_row rfl 30 (.tmp 12) (.tmp 53) rfl _ _ rfl (show _ = Value.agg #[.int .i64 3, .int .u32 (Y : Int), .slice none 0 0] from rfl) _ _ (Bk.new _ _ _) ak_sz rfl (by simp [Value.oneCell']) ?_))
    try rw [World.setRow_alloc_new]
    have KS := K.size
    have H_l := H.lt
    have G1_l := G1.lt
    replace H := H.alloc (.cells #[.int .i64 3, .int .u32 (Y : Int), .slice none 0 0] 30)
    replace G1 := G1.alloc (.cells #[.int .i64 3, .int .u32 (Y : Int), .slice none 0 0] 30)
    replace hL := hL.below (below_alloc _ (.cells #[.int .i64 3, .int .u32 (Y : Int), .slice none 0 0] 30))
    replace h := h.below (below_alloc _ (.cells #[.int .i64 3, .int .u32 (Y : Int), .slice none 0 0] 30))
    replace hs := hs.below (below_alloc _ (.cells #[.int .i64 3, .int .u32 (Y : Int), .slice none 0 0] 30))
    replace hy := hy.below (below_alloc _ (.cells #[.int .i64 3, .int .u32 (Y : Int), .slice none 0 0] 30))
    replace K := Below.then_ K (below_alloc _ (.cells #[.int .i64 3, .int .u32 (Y : Int), .slice none 0 0] 30))
    have G2 := Bk.new (w5) #[.int .i64 3, .int .u32 (Y : Int), .slice none 0 0] 30
    try simp only [World.size_alloc] at G2
    generalize (w5).alloc (.cells #[.int .i64 3, .int .u32 (Y : Int), .slice none 0 0] 30) = w6 at H G1 G2 hL h hs hy K ⊢
    generalize hgG2 : w5.heap.size = gG2 at G2 ⊢
    have G2_b : w.heap.size ≤ gG2 := by omega
    have ne_H_G2 : gH ≠ gG2 := by omega
    have ne_G1_G2 : gG1 ≠ gG2 := by omega
    clear KS hgG2 H_l G1_l
    have H_0 := H.at_ (v := .int .u32 (a : Int)) 0 rfl
    have H_1 := H.at_ (v := .int .i64 p) 1 rfl
    have H_2 := H.at_ (v := .slice A n c) 2 rfl
    have H_3 := H.at_ (v := .int .i64 sh) 3 rfl
    have H_4 := H.at_ (v := .int .i64 wo) 4 rfl
    have H_5 := H.at_ (v := .int .i64 qu) 5 rfl
    have H_6 := H.at_ (v := .int .i64 tr) 6 rfl
    have H_z := H.lt
    have G1_0 := G1.at_ (v := .int .i64 2) 0 rfl
    have G1_1 := G1.at_ (v := .int .u32 (Y : Int)) 1 rfl
    have G1_2 := G1.at_ (v := .slice none 0 0) 2 rfl
    have G1_z := G1.lt
    go_wp2_with fail
    refine (some_at (k := 2) (X := Y) (xi := (Y : Int)) (sh := sh) (wo := wo) (qu := qu) (tr := tr) hL ha hM h hn hs hm hx.out rfl hY (IS.none_ .u32 0 _) (by omega) (fun y hy => by cases hy) hS1.out).mono ?_
    clear H_0 H_1 H_2 H_3 H_4 H_5 H_6 H_z
    clear G1_0 G1_1 G1_2 G1_z
    rintro e w7 ⟨TA, Tn, Tc, D1A, D1n, D1c, E1A, E1n, E1c, rfl, T, hav, D1, E1, K'⟩
    clear hav 
    replace H := H.below K'
    replace G1 := G1.below K'
    replace G2 := G2.below K'
    replace hL := hL.below K'
    replace h := h.below K'
    replace hs := hs.below K'
    replace hy := hy.below K'
    replace K := Below.then_ K K'
    clear K'
    have hTn : Tn ≤ 60000 := by have h1 := T.len; omega
    go_upto_region 9 with (first | (refine wpList_store_row rfl 34 (.tmp 14) (.tmp 60) rfl _ _ rfl (show _ = Value.agg #[.int .i64 ax.1, .int .u32 ax.2.1, .bool ax.2.2.1, .slice D1A D1n D1c, .slice E1A E1n E1c] from rfl) _ _ (Bk.new _ _ _) an_sz rfl (by simp [Value.oneCell']) ?_))
    try rw [World.setRow_alloc_new]
    have KS := K.size
    have H_l := H.lt
    have G1_l := G1.lt
    have G2_l := G2.lt
    replace H := H.alloc (.cells #[.int .i64 ax.1, .int .u32 ax.2.1, .bool ax.2.2.1, .slice D1A D1n D1c, .slice E1A E1n E1c] 34)
    replace G1 := G1.alloc (.cells #[.int .i64 ax.1, .int .u32 ax.2.1, .bool ax.2.2.1, .slice D1A D1n D1c, .slice E1A E1n E1c] 34)
    replace G2 := G2.alloc (.cells #[.int .i64 ax.1, .int .u32 ax.2.1, .bool ax.2.2.1, .slice D1A D1n D1c, .slice E1A E1n E1c] 34)
    replace hL := hL.below (below_alloc _ (.cells #[.int .i64 ax.1, .int .u32 ax.2.1, .bool ax.2.2.1, .slice D1A D1n D1c, .slice E1A E1n E1c] 34))
    replace h := h.below (below_alloc _ (.cells #[.int .i64 ax.1, .int .u32 ax.2.1, .bool ax.2.2.1, .slice D1A D1n D1c, .slice E1A E1n E1c] 34))
    replace hs := hs.below (below_alloc _ (.cells #[.int .i64 ax.1, .int .u32 ax.2.1, .bool ax.2.2.1, .slice D1A D1n D1c, .slice E1A E1n E1c] 34))
    replace hy := hy.below (below_alloc _ (.cells #[.int .i64 ax.1, .int .u32 ax.2.1, .bool ax.2.2.1, .slice D1A D1n D1c, .slice E1A E1n E1c] 34))
    replace T := T.below (below_alloc _ (.cells #[.int .i64 ax.1, .int .u32 ax.2.1, .bool ax.2.2.1, .slice D1A D1n D1c, .slice E1A E1n E1c] 34))
    replace D1 := D1.below (below_alloc _ (.cells #[.int .i64 ax.1, .int .u32 ax.2.1, .bool ax.2.2.1, .slice D1A D1n D1c, .slice E1A E1n E1c] 34))
    replace E1 := E1.below (below_alloc _ (.cells #[.int .i64 ax.1, .int .u32 ax.2.1, .bool ax.2.2.1, .slice D1A D1n D1c, .slice E1A E1n E1c] 34))
    replace K := Below.then_ K (below_alloc _ (.cells #[.int .i64 ax.1, .int .u32 ax.2.1, .bool ax.2.2.1, .slice D1A D1n D1c, .slice E1A E1n E1c] 34))
    have X1 := Bk.new (w7) #[.int .i64 ax.1, .int .u32 ax.2.1, .bool ax.2.2.1, .slice D1A D1n D1c, .slice E1A E1n E1c] 34
    try simp only [World.size_alloc] at X1
    generalize (w7).alloc (.cells #[.int .i64 ax.1, .int .u32 ax.2.1, .bool ax.2.2.1, .slice D1A D1n D1c, .slice E1A E1n E1c] 34) = w8 at H G1 G2 X1 hL h hs hy T D1 E1 K ⊢
    generalize hgX1 : w7.heap.size = gX1 at X1 ⊢
    have X1_b : w.heap.size ≤ gX1 := by omega
    have ne_H_X1 : gH ≠ gX1 := by omega
    have ne_G1_X1 : gG1 ≠ gX1 := by omega
    have ne_G2_X1 : gG2 ≠ gX1 := by omega
    clear KS hgX1 H_l G1_l G2_l
    clear D1 E1
    have H_0 := H.at_ (v := .int .u32 (a : Int)) 0 rfl
    have H_1 := H.at_ (v := .int .i64 p) 1 rfl
    have H_2 := H.at_ (v := .slice A n c) 2 rfl
    have H_3 := H.at_ (v := .int .i64 sh) 3 rfl
    have H_4 := H.at_ (v := .int .i64 wo) 4 rfl
    have H_5 := H.at_ (v := .int .i64 qu) 5 rfl
    have H_6 := H.at_ (v := .int .i64 tr) 6 rfl
    have H_z := H.lt
    have G2_0 := G2.at_ (v := .int .i64 3) 0 rfl
    have G2_1 := G2.at_ (v := .int .u32 (Y : Int)) 1 rfl
    have G2_2 := G2.at_ (v := .slice none 0 0) 2 rfl
    have G2_z := G2.lt
    go_wp2_with fail
    refine (some_at (k := 3) (X := Y) (xi := (Y : Int)) (sh := sh) (wo := wo) (qu := qu) (tr := tr) hL ha hM h hn T hTn htm.out rfl hY (IS.none_ .u32 0 _) (by omega) (fun y hy => by cases hy) hS2.out).mono ?_
    clear H_0 H_1 H_2 H_3 H_4 H_5 H_6 H_z
    clear G2_0 G2_1 G2_2 G2_z
    rintro e w9 ⟨UA, Un, Uc, D2A, D2n, D2c, E2A, E2n, E2c, rfl, U, hav, D2, E2, K'⟩
    clear hav D2 E2
    replace H := H.below K'
    replace G1 := G1.below K'
    replace G2 := G2.below K'
    replace X1 := X1.below K'
    replace hL := hL.below K'
    replace h := h.below K'
    replace hs := hs.below K'
    replace hy := hy.below K'
    replace T := T.below K'
    replace K := Below.then_ K K'
    clear K'
    have hUn : Un ≤ 60000 := by have h1 := U.len; omega
    go_upto_region 10 with (first | (refine wpList_store_row rfl 34 (.tmp 16) (.tmp 67) rfl _ _ rfl (show _ = Value.agg #[.int .i64 0, .int .u32 0, .bool false, .slice D2A D2n D2c, .slice E2A E2n E2c] from rfl) _ _ (Bk.new _ _ _) an_sz rfl (by simp [Value.oneCell']) ?_))
    try rw [World.setRow_alloc_new]
    have KS := K.size
    have H_l := H.lt
    have G1_l := G1.lt
    have G2_l := G2.lt
    have X1_l := X1.lt
    replace H := H.alloc (.cells #[.int .i64 0, .int .u32 0, .bool false, .slice D2A D2n D2c, .slice E2A E2n E2c] 34)
    replace G1 := G1.alloc (.cells #[.int .i64 0, .int .u32 0, .bool false, .slice D2A D2n D2c, .slice E2A E2n E2c] 34)
    replace G2 := G2.alloc (.cells #[.int .i64 0, .int .u32 0, .bool false, .slice D2A D2n D2c, .slice E2A E2n E2c] 34)
    replace X1 := X1.alloc (.cells #[.int .i64 0, .int .u32 0, .bool false, .slice D2A D2n D2c, .slice E2A E2n E2c] 34)
    replace hL := hL.below (below_alloc _ (.cells #[.int .i64 0, .int .u32 0, .bool false, .slice D2A D2n D2c, .slice E2A E2n E2c] 34))
    replace h := h.below (below_alloc _ (.cells #[.int .i64 0, .int .u32 0, .bool false, .slice D2A D2n D2c, .slice E2A E2n E2c] 34))
    replace hs := hs.below (below_alloc _ (.cells #[.int .i64 0, .int .u32 0, .bool false, .slice D2A D2n D2c, .slice E2A E2n E2c] 34))
    replace hy := hy.below (below_alloc _ (.cells #[.int .i64 0, .int .u32 0, .bool false, .slice D2A D2n D2c, .slice E2A E2n E2c] 34))
    replace T := T.below (below_alloc _ (.cells #[.int .i64 0, .int .u32 0, .bool false, .slice D2A D2n D2c, .slice E2A E2n E2c] 34))
    replace U := U.below (below_alloc _ (.cells #[.int .i64 0, .int .u32 0, .bool false, .slice D2A D2n D2c, .slice E2A E2n E2c] 34))
    replace K := Below.then_ K (below_alloc _ (.cells #[.int .i64 0, .int .u32 0, .bool false, .slice D2A D2n D2c, .slice E2A E2n E2c] 34))
    have X2 := Bk.new (w9) #[.int .i64 0, .int .u32 0, .bool false, .slice D2A D2n D2c, .slice E2A E2n E2c] 34
    try simp only [World.size_alloc] at X2
    generalize (w9).alloc (.cells #[.int .i64 0, .int .u32 0, .bool false, .slice D2A D2n D2c, .slice E2A E2n E2c] 34) = w10 at H G1 G2 X1 X2 hL h hs hy T U K ⊢
    generalize hgX2 : w9.heap.size = gX2 at X2 ⊢
    have X2_b : w.heap.size ≤ gX2 := by omega
    have ne_H_X2 : gH ≠ gX2 := by omega
    have ne_G1_X2 : gG1 ≠ gX2 := by omega
    have ne_G2_X2 : gG2 ≠ gX2 := by omega
    have ne_X1_X2 : gX1 ≠ gX2 := by omega
    clear KS hgX2 H_l G1_l G2_l X1_l
    have H_0 := H.at_ (v := .int .u32 (a : Int)) 0 rfl
    have H_1 := H.at_ (v := .int .i64 p) 1 rfl
    have H_2 := H.at_ (v := .slice A n c) 2 rfl
    have H_3 := H.at_ (v := .int .i64 sh) 3 rfl
    have H_4 := H.at_ (v := .int .i64 wo) 4 rfl
    have H_5 := H.at_ (v := .int .i64 qu) 5 rfl
    have H_6 := H.at_ (v := .int .i64 tr) 6 rfl
    have H_z := H.lt
    have G1_0 := G1.at_ (v := .int .i64 2) 0 rfl
    have G1_1 := G1.at_ (v := .int .u32 (Y : Int)) 1 rfl
    have G1_2 := G1.at_ (v := .slice none 0 0) 2 rfl
    have G1_z := G1.lt
    go_wp2_with fail
    refine (some_at (k := 2) (X := Y) (xi := (Y : Int)) (sh := sh) (wo := wo) (qu := qu) (tr := tr) hL ha hM h hn T hTn htm.out rfl hY (IS.none_ .u32 0 _) (by omega) (fun y hy => by cases hy) hS3.out).mono ?_
    clear H_0 H_1 H_2 H_3 H_4 H_5 H_6 H_z
    clear G1_0 G1_1 G1_2 G1_z
    rintro e w11 ⟨T3A, T3n, T3c, D3A, D3n, D3c, E3A, E3n, E3c, rfl, T3, hav, D3, E3, K'⟩
    clear hav T3 D3 E3
    replace H := H.below K'
    replace G1 := G1.below K'
    replace G2 := G2.below K'
    replace X1 := X1.below K'
    replace X2 := X2.below K'
    replace hL := hL.below K'
    replace h := h.below K'
    replace hs := hs.below K'
    replace hy := hy.below K'
    replace T := T.below K'
    replace U := U.below K'
    replace K := Below.then_ K K'
    clear K'
    go_upto_region 11 with (first | (refine wpList_store_row rfl 34 (.tmp 18) (.tmp 74) rfl _ _ rfl (show _ = Value.agg #[.int .i64 5, .int .u32 0, .bool false, .slice D3A D3n D3c, .slice E3A E3n E3c] from rfl) _ _ (Bk.new _ _ _) an_sz rfl (by simp [Value.oneCell']) ?_))
    try rw [World.setRow_alloc_new]
    have KS := K.size
    have H_l := H.lt
    have G1_l := G1.lt
    have G2_l := G2.lt
    have X1_l := X1.lt
    have X2_l := X2.lt
    replace H := H.alloc (.cells #[.int .i64 5, .int .u32 0, .bool false, .slice D3A D3n D3c, .slice E3A E3n E3c] 34)
    replace G1 := G1.alloc (.cells #[.int .i64 5, .int .u32 0, .bool false, .slice D3A D3n D3c, .slice E3A E3n E3c] 34)
    replace G2 := G2.alloc (.cells #[.int .i64 5, .int .u32 0, .bool false, .slice D3A D3n D3c, .slice E3A E3n E3c] 34)
    replace X1 := X1.alloc (.cells #[.int .i64 5, .int .u32 0, .bool false, .slice D3A D3n D3c, .slice E3A E3n E3c] 34)
    replace X2 := X2.alloc (.cells #[.int .i64 5, .int .u32 0, .bool false, .slice D3A D3n D3c, .slice E3A E3n E3c] 34)
    replace hL := hL.below (below_alloc _ (.cells #[.int .i64 5, .int .u32 0, .bool false, .slice D3A D3n D3c, .slice E3A E3n E3c] 34))
    replace h := h.below (below_alloc _ (.cells #[.int .i64 5, .int .u32 0, .bool false, .slice D3A D3n D3c, .slice E3A E3n E3c] 34))
    replace hs := hs.below (below_alloc _ (.cells #[.int .i64 5, .int .u32 0, .bool false, .slice D3A D3n D3c, .slice E3A E3n E3c] 34))
    replace hy := hy.below (below_alloc _ (.cells #[.int .i64 5, .int .u32 0, .bool false, .slice D3A D3n D3c, .slice E3A E3n E3c] 34))
    replace T := T.below (below_alloc _ (.cells #[.int .i64 5, .int .u32 0, .bool false, .slice D3A D3n D3c, .slice E3A E3n E3c] 34))
    replace U := U.below (below_alloc _ (.cells #[.int .i64 5, .int .u32 0, .bool false, .slice D3A D3n D3c, .slice E3A E3n E3c] 34))
    replace K := Below.then_ K (below_alloc _ (.cells #[.int .i64 5, .int .u32 0, .bool false, .slice D3A D3n D3c, .slice E3A E3n E3c] 34))
    have X3 := Bk.new (w11) #[.int .i64 5, .int .u32 0, .bool false, .slice D3A D3n D3c, .slice E3A E3n E3c] 34
    try simp only [World.size_alloc] at X3
    generalize (w11).alloc (.cells #[.int .i64 5, .int .u32 0, .bool false, .slice D3A D3n D3c, .slice E3A E3n E3c] 34) = w12 at H G1 G2 X1 X2 X3 hL h hs hy T U K ⊢
    generalize hgX3 : w11.heap.size = gX3 at X3 ⊢
    have X3_b : w.heap.size ≤ gX3 := by omega
    have ne_H_X3 : gH ≠ gX3 := by omega
    have ne_G1_X3 : gG1 ≠ gX3 := by omega
    have ne_G2_X3 : gG2 ≠ gX3 := by omega
    have ne_X1_X3 : gX1 ≠ gX3 := by omega
    have ne_X2_X3 : gX2 ≠ gX3 := by omega
    clear KS hgX3 H_l G1_l G2_l X1_l X2_l
    have H_0 := H.at_ (v := .int .u32 (a : Int)) 0 rfl
    have H_1 := H.at_ (v := .int .i64 p) 1 rfl
    have H_2 := H.at_ (v := .slice A n c) 2 rfl
    have H_3 := H.at_ (v := .int .i64 sh) 3 rfl
    have H_4 := H.at_ (v := .int .i64 wo) 4 rfl
    have H_5 := H.at_ (v := .int .i64 qu) 5 rfl
    have H_6 := H.at_ (v := .int .i64 tr) 6 rfl
    have H_z := H.lt
    have G2_0 := G2.at_ (v := .int .i64 3) 0 rfl
    have G2_1 := G2.at_ (v := .int .u32 (Y : Int)) 1 rfl
    have G2_2 := G2.at_ (v := .slice none 0 0) 2 rfl
    have G2_z := G2.lt
    go_wp2_with fail
    refine (some_at (k := 3) (X := Y) (xi := (Y : Int)) (sh := sh) (wo := wo) (qu := qu) (tr := tr) hL ha hM h hn U hUn hdm.out rfl hY (IS.none_ .u32 0 _) (by omega) (fun y hy => by cases hy) hS4.out).mono ?_
    clear H_0 H_1 H_2 H_3 H_4 H_5 H_6 H_z
    clear G2_0 G2_1 G2_2 G2_z
    rintro e w13 ⟨U4A, U4n, U4c, D4A, D4n, D4c, E4A, E4n, E4c, rfl, U4, hav, D4, E4, K'⟩
    clear hav U4 D4 E4
    replace H := H.below K'
    replace G1 := G1.below K'
    replace G2 := G2.below K'
    replace X1 := X1.below K'
    replace X2 := X2.below K'
    replace X3 := X3.below K'
    replace hL := hL.below K'
    replace h := h.below K'
    replace hs := hs.below K'
    replace hy := hy.below K'
    replace T := T.below K'
    replace U := U.below K'
    replace K := Below.then_ K K'
    clear K'
    go_upto_region 12 with (first | (refine wpList_store_row rfl 34 (.tmp 20) (.tmp 81) rfl _ _ rfl (show _ = Value.agg #[.int .i64 6, .int .u32 0, .bool false, .slice D4A D4n D4c, .slice E4A E4n E4c] from rfl) _ _ (Bk.new _ _ _) an_sz rfl (by simp [Value.oneCell']) ?_))
    try rw [World.setRow_alloc_new]
    have KS := K.size
    have H_l := H.lt
    have G1_l := G1.lt
    have G2_l := G2.lt
    have X1_l := X1.lt
    have X2_l := X2.lt
    have X3_l := X3.lt
    replace H := H.alloc (.cells #[.int .i64 6, .int .u32 0, .bool false, .slice D4A D4n D4c, .slice E4A E4n E4c] 34)
    replace G1 := G1.alloc (.cells #[.int .i64 6, .int .u32 0, .bool false, .slice D4A D4n D4c, .slice E4A E4n E4c] 34)
    replace G2 := G2.alloc (.cells #[.int .i64 6, .int .u32 0, .bool false, .slice D4A D4n D4c, .slice E4A E4n E4c] 34)
    replace X1 := X1.alloc (.cells #[.int .i64 6, .int .u32 0, .bool false, .slice D4A D4n D4c, .slice E4A E4n E4c] 34)
    replace X2 := X2.alloc (.cells #[.int .i64 6, .int .u32 0, .bool false, .slice D4A D4n D4c, .slice E4A E4n E4c] 34)
    replace X3 := X3.alloc (.cells #[.int .i64 6, .int .u32 0, .bool false, .slice D4A D4n D4c, .slice E4A E4n E4c] 34)
    replace hL := hL.below (below_alloc _ (.cells #[.int .i64 6, .int .u32 0, .bool false, .slice D4A D4n D4c, .slice E4A E4n E4c] 34))
    replace h := h.below (below_alloc _ (.cells #[.int .i64 6, .int .u32 0, .bool false, .slice D4A D4n D4c, .slice E4A E4n E4c] 34))
    replace hs := hs.below (below_alloc _ (.cells #[.int .i64 6, .int .u32 0, .bool false, .slice D4A D4n D4c, .slice E4A E4n E4c] 34))
    replace hy := hy.below (below_alloc _ (.cells #[.int .i64 6, .int .u32 0, .bool false, .slice D4A D4n D4c, .slice E4A E4n E4c] 34))
    replace T := T.below (below_alloc _ (.cells #[.int .i64 6, .int .u32 0, .bool false, .slice D4A D4n D4c, .slice E4A E4n E4c] 34))
    replace U := U.below (below_alloc _ (.cells #[.int .i64 6, .int .u32 0, .bool false, .slice D4A D4n D4c, .slice E4A E4n E4c] 34))
    replace K := Below.then_ K (below_alloc _ (.cells #[.int .i64 6, .int .u32 0, .bool false, .slice D4A D4n D4c, .slice E4A E4n E4c] 34))
    have X4 := Bk.new (w13) #[.int .i64 6, .int .u32 0, .bool false, .slice D4A D4n D4c, .slice E4A E4n E4c] 34
    try simp only [World.size_alloc] at X4
    generalize (w13).alloc (.cells #[.int .i64 6, .int .u32 0, .bool false, .slice D4A D4n D4c, .slice E4A E4n E4c] 34) = w14 at H G1 G2 X1 X2 X3 X4 hL h hs hy T U K ⊢
    generalize hgX4 : w13.heap.size = gX4 at X4 ⊢
    have X4_b : w.heap.size ≤ gX4 := by omega
    have ne_H_X4 : gH ≠ gX4 := by omega
    have ne_G1_X4 : gG1 ≠ gX4 := by omega
    have ne_G2_X4 : gG2 ≠ gX4 := by omega
    have ne_X1_X4 : gX1 ≠ gX4 := by omega
    have ne_X2_X4 : gX2 ≠ gX4 := by omega
    have ne_X3_X4 : gX3 ≠ gX4 := by omega
    clear KS hgX4 H_l G1_l G2_l X1_l X2_l X3_l
    have hhl := hs0.len
    by_cases ha0 : ax.1 = 0
    · have U2 := U
      rw [hback.out ha0] at U2
      have ex : (ax.1 == 0) = true := by simp [ha0]
      replace ha0 := Lib.hid ha0
      have hU2n : Un ≤ 65536 := by omega
      have X1_0 := X1.at_ (v := .int .i64 ax.1) 0 rfl
      have X1_1 := X1.at_ (v := .int .u32 ax.2.1) 1 rfl
      have X1_2 := X1.at_ (v := .bool ax.2.2.1) 2 rfl
      have X1_3 := X1.at_ (v := .slice D1A D1n D1c) 3 rfl
      have X1_4 := X1.at_ (v := .slice E1A E1n E1c) 4 rfl
      have X1_z := X1.lt
      go_wp2_with fail
      refine (ints_same U2 hs hU2n).mono ?_
      rintro e w15 ⟨rfl, K'⟩
      replace H := H.below K'
      replace G1 := G1.below K'
      replace G2 := G2.below K'
      replace X1 := X1.below K'
      replace X2 := X2.below K'
      replace X3 := X3.below K'
      replace X4 := X4.below K'
      replace hL := hL.below K'
      replace h := h.below K'
      replace hs := hs.below K'
      replace hy := hy.below K'
      replace T := T.below K'
      replace U := U.below K'
      replace U2 := U2.below K'
      replace K := Below.then_ K K'
      clear K'
      clear X1_0 X1_1 X1_2 X1_3 X1_4 X1_z
      clear U2
      have X2_0 := X2.at_ (v := .int .i64 0) 0 rfl
      have X2_1 := X2.at_ (v := .int .u32 0) 1 rfl
      have X2_2 := X2.at_ (v := .bool false) 2 rfl
      have X2_3 := X2.at_ (v := .slice D2A D2n D2c) 3 rfl
      have X2_4 := X2.at_ (v := .slice E2A E2n E2c) 4 rfl
      have X2_z := X2.lt
      have X3_0 := X3.at_ (v := .int .i64 5) 0 rfl
      have X3_1 := X3.at_ (v := .int .u32 0) 1 rfl
      have X3_2 := X3.at_ (v := .bool false) 2 rfl
      have X3_3 := X3.at_ (v := .slice D3A D3n D3c) 3 rfl
      have X3_4 := X3.at_ (v := .slice E3A E3n E3c) 4 rfl
      have X3_z := X3.lt
      have X4_0 := X4.at_ (v := .int .i64 6) 0 rfl
      have X4_1 := X4.at_ (v := .int .u32 0) 1 rfl
      have X4_2 := X4.at_ (v := .bool false) 2 rfl
      have X4_3 := X4.at_ (v := .slice D4A D4n D4c) 3 rfl
      have X4_4 := X4.at_ (v := .slice E4A E4n E4c) 4 rfl
      have X4_z := X4.lt
      go_upto_region 14 with (fail)
      clear X2_0 X2_1 X2_2 X2_3 X2_4 X2_z
      clear X3_0 X3_1 X3_2 X3_3 X3_4 X3_z
      clear X4_0 X4_1 X4_2 X4_3 X4_4 X4_z
      clear X1
      clear X2
      clear X3
      clear X4
      clear G1
      clear G2
      go_upto_region 15 with (first | (refine wpList_store_row rfl 30 (.tmp 21) (.tmp 107) rfl _ _ rfl (show _ = Value.agg #[.int .i64 4, .int .u32 0, .slice C q f] from rfl) _ _ (Bk.new _ _ _) ak_sz rfl (by simp [Value.oneCell']) ?_))
      try rw [World.setRow_alloc_new]
      have KS := K.size
      have H_l := H.lt
      replace H := H.alloc (.cells #[.int .i64 4, .int .u32 0, .slice C q f] 30)
      replace hL := hL.below (below_alloc _ (.cells #[.int .i64 4, .int .u32 0, .slice C q f] 30))
      replace h := h.below (below_alloc _ (.cells #[.int .i64 4, .int .u32 0, .slice C q f] 30))
      replace hs := hs.below (below_alloc _ (.cells #[.int .i64 4, .int .u32 0, .slice C q f] 30))
      replace hy := hy.below (below_alloc _ (.cells #[.int .i64 4, .int .u32 0, .slice C q f] 30))
      replace T := T.below (below_alloc _ (.cells #[.int .i64 4, .int .u32 0, .slice C q f] 30))
      replace U := U.below (below_alloc _ (.cells #[.int .i64 4, .int .u32 0, .slice C q f] 30))
      replace K := Below.then_ K (below_alloc _ (.cells #[.int .i64 4, .int .u32 0, .slice C q f] 30))
      have GB := Bk.new (w15) #[.int .i64 4, .int .u32 0, .slice C q f] 30
      try simp only [World.size_alloc] at GB
      generalize (w15).alloc (.cells #[.int .i64 4, .int .u32 0, .slice C q f] 30) = w16 at H GB hL h hs hy T U K ⊢
      generalize hgGB : w15.heap.size = gGB at GB ⊢
      have GB_b : w.heap.size ≤ gGB := by omega
      have ne_H_GB : gH ≠ gGB := by omega
      clear KS hgGB H_l
      obtain ⟨eb, heb⟩ : ∃ e, askE a M zs 4 ((0 : Nat) : Int) ys = e := ⟨_, rfl⟩
      replace heb := Lib.hid heb
      have H_0 := H.at_ (v := .int .u32 (a : Int)) 0 rfl
      have H_1 := H.at_ (v := .int .i64 p) 1 rfl
      have H_2 := H.at_ (v := .slice A n c) 2 rfl
      have H_3 := H.at_ (v := .int .i64 sh) 3 rfl
      have H_4 := H.at_ (v := .int .i64 wo) 4 rfl
      have H_5 := H.at_ (v := .int .i64 qu) 5 rfl
      have H_6 := H.at_ (v := .int .i64 tr) 6 rfl
      have H_z := H.lt
      have GB_0 := GB.at_ (v := .int .i64 4) 0 rfl
      have GB_1 := GB.at_ (v := .int .u32 0) 1 rfl
      have GB_2 := GB.at_ (v := .slice C q f) 2 rfl
      have GB_z := GB.lt
      go_wp2_with fail
      refine (rcheck_is (k := 4) (X := 0) hM h hn hy (by omega) (by omega) hw.out heb.out).mono ?_
      rintro e w17 ⟨rfl, K'⟩
      clear H_0 H_1 H_2 H_3 H_4 H_5 H_6 H_z
      clear GB_0 GB_1 GB_2 GB_z
      replace H := H.below K'
      replace GB := GB.below K'
      replace hL := hL.below K'
      replace h := h.below K'
      replace hs := hs.below K'
      replace hy := hy.below K'
      replace T := T.below K'
      replace U := U.below K'
      replace K := Below.then_ K K'
      clear K'
      by_cases heb0 : eb = 0
      · subst heb0
        obtain ⟨hbs, hfi⟩ := bat_ok (xs := xs) heb.out
        replace hbs := Lib.hid hbs
        replace hfi := Lib.hid hfi
        have H_0 := H.at_ (v := .int .u32 (a : Int)) 0 rfl
        have H_1 := H.at_ (v := .int .i64 p) 1 rfl
        have H_2 := H.at_ (v := .slice A n c) 2 rfl
        have H_3 := H.at_ (v := .int .i64 sh) 3 rfl
        have H_4 := H.at_ (v := .int .i64 wo) 4 rfl
        have H_5 := H.at_ (v := .int .i64 qu) 5 rfl
        have H_6 := H.at_ (v := .int .i64 tr) 6 rfl
        have H_z := H.lt
        have GB_0 := GB.at_ (v := .int .i64 4) 0 rfl
        have GB_1 := GB.at_ (v := .int .u32 0) 1 rfl
        have GB_2 := GB.at_ (v := .slice C q f) 2 rfl
        have GB_z := GB.lt
        go_wp2_with fail
        refine (some_at (k := 4) (X := 0) (xi := 0) (sh := sh) (wo := wo) (qu := qu) (tr := tr) hL ha hM h hn hs hm hx.out rfl (by omega) hy (by omega) hw.out hbs.out).mono ?_
        clear H_0 H_1 H_2 H_3 H_4 H_5 H_6 H_z
        clear GB_0 GB_1 GB_2 GB_z
        rintro e w18 ⟨VA, Vn, Vc, D5A, D5n, D5c, FA, Fn, Fc, rfl, V, hav, D5, F, K'⟩
        clear hav D5
        replace H := H.below K'
        replace GB := GB.below K'
        replace hL := hL.below K'
        replace h := h.below K'
        replace hs := hs.below K'
        replace hy := hy.below K'
        replace T := T.below K'
        replace U := U.below K'
        replace K := Below.then_ K K'
        clear K'
        have hql := hy0.len
        obtain rfl : q = Fn := by rw [← F.len, ← hql]; exact (batE_len ys).symm
        go_upto_region 18 with (first | (refine wpList_store_row rfl 34 (.tmp 23) (.tmp 118) rfl _ _ rfl (show _ = Value.agg #[.int .i64 0, .int .u32 0, .bool false, .slice D5A D5n D5c, .slice FA q Fc] from rfl) _ _ (Bk.new _ _ _) an_sz rfl (by simp [Value.oneCell']) ?_))
        try rw [World.setRow_alloc_new]
        have KS := K.size
        have H_l := H.lt
        have GB_l := GB.lt
        replace H := H.alloc (.cells #[.int .i64 0, .int .u32 0, .bool false, .slice D5A D5n D5c, .slice FA q Fc] 34)
        replace GB := GB.alloc (.cells #[.int .i64 0, .int .u32 0, .bool false, .slice D5A D5n D5c, .slice FA q Fc] 34)
        replace hL := hL.below (below_alloc _ (.cells #[.int .i64 0, .int .u32 0, .bool false, .slice D5A D5n D5c, .slice FA q Fc] 34))
        replace h := h.below (below_alloc _ (.cells #[.int .i64 0, .int .u32 0, .bool false, .slice D5A D5n D5c, .slice FA q Fc] 34))
        replace hs := hs.below (below_alloc _ (.cells #[.int .i64 0, .int .u32 0, .bool false, .slice D5A D5n D5c, .slice FA q Fc] 34))
        replace hy := hy.below (below_alloc _ (.cells #[.int .i64 0, .int .u32 0, .bool false, .slice D5A D5n D5c, .slice FA q Fc] 34))
        replace T := T.below (below_alloc _ (.cells #[.int .i64 0, .int .u32 0, .bool false, .slice D5A D5n D5c, .slice FA q Fc] 34))
        replace U := U.below (below_alloc _ (.cells #[.int .i64 0, .int .u32 0, .bool false, .slice D5A D5n D5c, .slice FA q Fc] 34))
        replace V := V.below (below_alloc _ (.cells #[.int .i64 0, .int .u32 0, .bool false, .slice D5A D5n D5c, .slice FA q Fc] 34))
        replace F := F.below (below_alloc _ (.cells #[.int .i64 0, .int .u32 0, .bool false, .slice D5A D5n D5c, .slice FA q Fc] 34))
        replace K := Below.then_ K (below_alloc _ (.cells #[.int .i64 0, .int .u32 0, .bool false, .slice D5A D5n D5c, .slice FA q Fc] 34))
        have Z := Bk.new (w18) #[.int .i64 0, .int .u32 0, .bool false, .slice D5A D5n D5c, .slice FA q Fc] 34
        try simp only [World.size_alloc] at Z
        generalize (w18).alloc (.cells #[.int .i64 0, .int .u32 0, .bool false, .slice D5A D5n D5c, .slice FA q Fc] 34) = w19 at H GB Z hL h hs hy T U V F K ⊢
        generalize hgZ : w18.heap.size = gZ at Z ⊢
        have Z_b : w.heap.size ≤ gZ := by omega
        have ne_H_Z : gH ≠ gZ := by omega
        have ne_GB_Z : gGB ≠ gZ := by omega
        clear KS hgZ H_l GB_l
        clear GB
        have RS : ∀ r, Hid (mayR M zs 0 (batS a M xs (ys.take r)) = true) := fun r => Lib.hid (bat_may hx.out)
        have RL : ∀ r, Hid ((batS a M xs (ys.take r)).length ≤ m) := fun r => Lib.hid (by rw [← hhl]; exact batS_len _)
        have hVn : Vn ≤ 60000 := by have h1 := V.len; have h2 := batS_len (a := a) (M := M) ys (xs := xs); omega
        go_wp2
        go_loopw [24, 25] (fun s i wr => ∃ (r n1 c1 : Nat) (S : Option Addr), r ≤ q ∧ i = .int .i64 r ∧ s = .slice S n1 c1 ∧ Hid (IS .i64 0 wr S n1 c1 (batS a M xs (ys.take r))) ∧ Hid (IS .i64 0 wr VA Vn Vc (batS a M xs ys)) ∧ Hid (IS .i64 0 wr FA q Fc (batE a M xs ys)) ∧ Hid (Bk wr gH 27 #[.int .u32 (a : Int), .int .i64 p, .slice A n c, .int .i64 sh, .int .i64 wo, .int .i64 qu, .int .i64 tr]) ∧ Hid (Bk wr gZ 34 #[.int .i64 0, .int .u32 0, .bool false, .slice D5A D5n D5c, .slice FA q Fc]) ∧ Below w.heap.size w wr) (fun _ i _ => q - (intOf i).toNat)
        case atStart => exact ⟨0, m, d, B, Nat.zero_le _, rfl, rfl, Lib.hid (hs.lower (Nat.zero_le _)), Lib.hid V, Lib.hid (F.lower (Nat.zero_le _)), Lib.hid H, Lib.hid Z, K⟩
        case round =>
          clear V F H Z K hL h hs hy T U
          obtain ⟨r, n1, c1, S_, hk, rfl, rfl, HI_, HV_, HF_, HH_, HZ_, K⟩ := hrel
          have HI := HI_.out
          have V := HV_.out
          have F := HF_.out
          have H := HH_.out
          have Z := HZ_.out
          clear HI_ HV_ HF_ HH_ HZ_
          have hL := hL0.below K
          have h := h0.below K
          have hy := hy0.below K
          by_cases hlt : r < q
          · obtain ⟨y, hy1, hyb⟩ := hw.out.at_ (k := r) (by omega)
            obtain ⟨b, o, rfl, _, _⟩ := hy.get hlt
            have hfy : fiE a M y zs = 0 := by have := hfi.out _ (gi_mem (xs := ys) (j := r) (by omega)); rw [hy1] at this; exact this
            obtain ⟨e_, he_⟩ : ∃ e, reE (batS a M xs (ys.take r)) (ofO a M y) = e := ⟨_, rfl⟩
            have hz : Hid (gi (batE a M xs ys) r = e_) := Lib.hid (by rw [batE_at ys (by omega), hy1]; exact he_)
            have hso := Lib.hid (show someS a M zs (batS a M xs (ys.take r)) 3 y [] = (batS a M xs (ys.take (r + 1)), an0 e_) from by rw [some_release hfy, he_, batS_take (by omega), hy1]; rfl)
            have hn1 : n1 ≤ 60000 := by have h1 := (RL r).out; have h2 := HI.len; omega
            replace hy1 := Lib.hid hy1
            clear he_ hfy
            obtain ⟨b_, o_, rfl, _, _⟩ := F.get hlt
            go_wp2
            refine wp_region_held_drew (S := fun w' => Below w.heap.size w w' ∧ Bk w' gH 27 #[.int .u32 (a : Int), .int .i64 p, .slice A n c, .int .i64 sh, .int .i64 wo, .int .i64 qu, .int .i64 tr] ∧ Bk w' gZ 34 #[.int .i64 0, .int .u32 0, .bool false, .slice D5A D5n D5c, .slice (some ⟨b_, o_, none⟩) q Fc] ∧ True) (by kernel_rfl) ⟨K.drew, H.below ((Below.refl _ _).drew), Z.below ((Below.refl _ _).drew), trivial⟩ (fun hHeld => ?_)
            replace HI := HI.below ((Below.refl _ _).drew)
            replace V := V.below ((Below.refl _ _).drew)
            replace F := F.below ((Below.refl _ _).drew)
            generalize wr.drew = v20 at hHeld HI V F ⊢
            refine wpAnyH_take (i := 0) (oi := ⟨some 127, _, _, _, _, _⟩) (v := ?_) rfl (by kernel_rfl) (by kernel_rfl) (by kernel_rfl) (fun _ _ _ h => h) (Or.inl ⟨by rfl, ?_⟩) hHeld ?_
            rotate_left
            · intro ww hSw
              try dsimp only at hSw
              have H_0 := (hSw.2.1).at_ (v := .int .u32 (a : Int)) 0 rfl
              have H_1 := (hSw.2.1).at_ (v := .int .i64 p) 1 rfl
              have H_2 := (hSw.2.1).at_ (v := .slice A n c) 2 rfl
              have H_3 := (hSw.2.1).at_ (v := .int .i64 sh) 3 rfl
              have H_4 := (hSw.2.1).at_ (v := .int .i64 wo) 4 rfl
              have H_5 := (hSw.2.1).at_ (v := .int .i64 qu) 5 rfl
              have H_6 := (hSw.2.1).at_ (v := .int .i64 tr) 6 rfl
              have H_z := (hSw.2.1).lt
              have hce := (hy0.below hSw.1).here (j := r) hlt
              rw [hy1.out] at hce
              go_simp
              try with_reducible rfl
              try omega
            try simp only [Act.put, List.setIfInBounds_toArray, List.set_cons_zero, List.set_cons_succ]
            refine wpAnyH_take (i := 1) (oi := ⟨some 128, _, _, _, _, _⟩) (v := ?_) rfl (by kernel_rfl) (by kernel_rfl) (by kernel_rfl) (fun _ _ _ h => h) (Or.inl ⟨by rfl, ?_⟩) hHeld ?_
            rotate_left
            · intro ww hSw
              try dsimp only at hSw
              go_simp
              try with_reducible rfl
              try omega
            try simp only [Act.put, List.setIfInBounds_toArray, List.set_cons_zero, List.set_cons_succ]
            refine wpAnyH_take (i := 2) (oi := ⟨some 129, _, _, _, _, _⟩) (v := ?_) rfl (by kernel_rfl) (by kernel_rfl) (by kernel_rfl) (fun _ _ _ h => h) (Or.inl ⟨by rfl, ?_⟩) hHeld ?_
            rotate_left
            · intro ww hSw
              try dsimp only at hSw
              go_simp
              try with_reducible rfl
              try omega
            try simp only [Act.put, List.setIfInBounds_toArray, List.set_cons_zero, List.set_cons_succ]
            refine wpAnyH_take (i := 3) (oi := ⟨some 130, _, _, _, _, _⟩) (v := ?_) rfl (by kernel_rfl) (by kernel_rfl) (by kernel_rfl) (fun _ _ _ h => h) (Or.inl ⟨by rfl, ?_⟩) hHeld ?_
            rotate_left
            · intro ww hSw
              try dsimp only at hSw
              go_simp
              try with_reducible rfl
              try omega
            try simp only [Act.put, List.setIfInBounds_toArray, List.set_cons_zero, List.set_cons_succ]
            refine wpAnyH_take (i := 4) (oi := ⟨some 131, _, _, _, _, _⟩) (v := ?_) rfl (by kernel_rfl) (by kernel_rfl) (by kernel_rfl) (fun _ _ _ h => h) (Or.inl ⟨by rfl, ?_⟩) hHeld ?_
            rotate_left
            · intro ww hSw
              try dsimp only at hSw
              go_simp
              try with_reducible rfl
              try omega
            try simp only [Act.put, List.setIfInBounds_toArray, List.set_cons_zero, List.set_cons_succ]
            refine wpAnyH_take (i := 5) (oi := ⟨some 132, _, _, _, _, _⟩) (v := ?_) rfl (by kernel_rfl) (by kernel_rfl) (by kernel_rfl) (fun _ _ _ h => h) (Or.inl ⟨by rfl, ?_⟩) hHeld ?_
            rotate_left
            · intro ww hSw
              try dsimp only at hSw
              have H_0 := (hSw.2.1).at_ (v := .int .u32 (a : Int)) 0 rfl
              have H_1 := (hSw.2.1).at_ (v := .int .i64 p) 1 rfl
              have H_2 := (hSw.2.1).at_ (v := .slice A n c) 2 rfl
              have H_3 := (hSw.2.1).at_ (v := .int .i64 sh) 3 rfl
              have H_4 := (hSw.2.1).at_ (v := .int .i64 wo) 4 rfl
              have H_5 := (hSw.2.1).at_ (v := .int .i64 qu) 5 rfl
              have H_6 := (hSw.2.1).at_ (v := .int .i64 tr) 6 rfl
              have H_z := (hSw.2.1).lt
              have hce := (hy0.below hSw.1).here (j := r) hlt
              rw [hy1.out] at hce
              go_simp
              try with_reducible rfl
              try omega
            try simp only [Act.put, List.setIfInBounds_toArray, List.set_cons_zero, List.set_cons_succ]
            refine wpAnyH_take (i := 6) (oi := ⟨some 133, _, _, _, _, _⟩) (v := ?_) rfl (by kernel_rfl) (by kernel_rfl) (by kernel_rfl) (fun _ _ _ h => h) (Or.inl ⟨by rfl, ?_⟩) hHeld ?_
            rotate_left
            · intro ww hSw
              try dsimp only at hSw
              go_simp
              try with_reducible rfl
              try omega
            try simp only [Act.put, List.setIfInBounds_toArray, List.set_cons_zero, List.set_cons_succ]
            refine wpAnyH_ready (rs := [7, 11]) (by kernel_rfl) (by simp) ?_
            refine AllReadyH.cons (o := ⟨some 134, _, _, _, _, _⟩) rfl (fun K0 hK => ?_) ?_
            · go_simp
              refine (some_at (k := 3) (X := y) (xi := (y : Int)) (ys := []) (sh := sh) (wo := wo) (qu := qu) (tr := tr) (hL0.below hHeld.1) ha hM (h0.below hHeld.1) hn HI hn1 (RS r).out rfl hyb (IS.none_ .u32 0 _) (by omega) (fun y hy => by cases hy) hso.out).mono ?_
              have H_l := (hHeld.2.1).lt
              have Z_l := (hHeld.2.2.1).lt
              rintro e v21 ⟨S2A, S2n, S2c, DA, Dn, Dc, EA, En, Ec, rfl, S2, hav, D, E, K'⟩
              replace D := D.lower (Nat.zero_le _)
              replace E := E.lower (Nat.zero_le _)
              clear hav
              refine hK.out _ _ ⟨Below.then_ hHeld.1 K', hHeld.2.1.below K', hHeld.2.2.1.below K', trivial⟩ (fun hHeld' => ?_)
              replace HI := HI.below K'
              replace V := V.below K'
              replace F := F.below K'
              clear hHeld K' hK K0
              clear H_l Z_l
              have hHeld := hHeld'
              clear hHeld'
              try simp only [Act.put, List.setIfInBounds_toArray, List.set_cons_zero, List.set_cons_succ]
              refine wpAnyH_take (i := 8) (oi := ⟨some 126, _, _, _, _, _⟩) (v := ?_) rfl (by kernel_rfl) (by kernel_rfl) (by kernel_rfl) (fun _ _ _ h => h) (Or.inl ⟨by rfl, ?_⟩) hHeld ?_
              rotate_left
              · intro ww hSw
                try dsimp only at hSw
                go_simp
                try with_reducible rfl
                try omega
              try simp only [Act.put, List.setIfInBounds_toArray, List.set_cons_zero, List.set_cons_succ]
              refine wpAnyH_take (i := 9) (oi := ⟨some 135, _, _, _, _, _⟩) (v := ?_) rfl (by kernel_rfl) (by kernel_rfl) (by kernel_rfl) (fun _ _ _ h => h) (Or.inl ⟨by rfl, ?_⟩) hHeld ?_
              rotate_left
              · intro ww hSw
                try dsimp only at hSw
                go_simp
                try with_reducible rfl
                try omega
              try simp only [Act.put, List.setIfInBounds_toArray, List.set_cons_zero, List.set_cons_succ]
              refine wpAnyH_take (i := 10) (oi := ⟨some 136, _, _, _, _, _⟩) (v := ?_) rfl (by kernel_rfl) (by kernel_rfl) (by kernel_rfl) (fun _ _ _ h => h) (Or.inl ⟨by rfl, ?_⟩) hHeld ?_
              rotate_left
              · intro ww hSw
                try dsimp only at hSw
                go_simp
                try with_reducible rfl
                try omega
              try simp only [Act.put, List.setIfInBounds_toArray, List.set_cons_zero, List.set_cons_succ]
              refine wpAnyH_ready (rs := [11]) (by kernel_rfl) (by simp) ?_
              refine AllReadyH.cons (o := ⟨some 27, _, _, _, _, _⟩) rfl (fun K0 hK => ?_) AllReadyH.nil
              have K' := below_alloc v21 (.cells #[.int .i64 0, .int .u32 0, .bool false, .slice none 0 0, .slice none 0 0] 34)
              have V_ := Bk.new v21 #[.int .i64 0, .int .u32 0, .bool false, .slice none 0 0, .slice none 0 0] 34
              have KS := hHeld.1.size
              have V__b : w.heap.size ≤ v21.heap.size := by omega
              have ne_H_V_ : gH ≠ v21.heap.size := by have := (hHeld.2.1).lt; omega
              have ne_Z_V_ : gZ ≠ v21.heap.size := by have := (hHeld.2.2.1).lt; omega
              have HI_V_ := HI.av_old (Nat.le_refl v21.heap.size)
              have V_V_ := V.av_old (Nat.le_refl v21.heap.size)
              have F_V_ := F.av_old (Nat.le_refl v21.heap.size)
              have S2_V_ := S2.av_old (Nat.le_refl v21.heap.size)
              have D_V_ := D.av_old (Nat.le_refl v21.heap.size)
              have E_V_ := E.av_old (Nat.le_refl v21.heap.size)
              clear KS
              go_simp
              refine hK.out _ _ ⟨Below.then_ hHeld.1 K', hHeld.2.1.below K', hHeld.2.2.1.below K', trivial⟩ (fun hHeld' => ?_)
              replace HI := HI.below K'
              replace V := V.below K'
              replace F := F.below K'
              replace S2 := S2.below K'
              replace D := D.below K'
              replace E := E.below K'
              clear hHeld hK K0 K'
              have hHeld := hHeld'
              clear hHeld'
              generalize v21.alloc (.cells #[.int .i64 0, .int .u32 0, .bool false, .slice none 0 0, .slice none 0 0] 34) = v22 at hHeld V_ HI V F S2 D E ⊢
              generalize v21.heap.size = gV_ at V_ V__b ne_H_V_ ne_Z_V_ HI_V_ V_V_ F_V_ S2_V_ D_V_ E_V_ ⊢
              try simp only [Act.put, List.setIfInBounds_toArray, List.set_cons_zero, List.set_cons_succ]
              refine wpAnyH_take (i := 12) (oi := ⟨some 26, _, _, _, _, _⟩) (v := ?_) rfl (by kernel_rfl) (by kernel_rfl) (by kernel_rfl) (fun _ _ _ h => h) (Or.inl ⟨by rfl, ?_⟩) hHeld ?_
              rotate_left
              · intro ww hSw
                try dsimp only at hSw
                go_simp
                try with_reducible rfl
                try omega
              try simp only [Act.put, List.setIfInBounds_toArray, List.set_cons_zero, List.set_cons_succ]
              refine wpAnyH_ready (rs := [13]) (by kernel_rfl) (by simp) ?_
              refine AllReadyH.cons (o := ⟨none, _, _, _, _, _⟩) rfl (fun K0 hK => ?_) AllReadyH.nil
              rw [if_pos (by rfl)]
              refine wp_store_row 34 (.tmp 27) (.tmp 136) rfl gV_ _ rfl (show _ = Value.agg #[.int .i64 e_, .int .u32 0, .bool false, .slice DA Dn Dc, .slice EA En Ec] from rfl) _ _ V_ an_sz rfl (by simp [Value.oneCell']) ?_
              replace V_ := Bk.row V_ #[.int .i64 e_, .int .u32 0, .bool false, .slice DA Dn Dc, .slice EA En Ec]
              refine hK.out _ _ ⟨below_setRow hHeld.1 V__b _, hHeld.2.1.row_far ne_H_V_ _, hHeld.2.2.1.row_far ne_Z_V_ _, trivial⟩ (fun hHeld' => ?_)
              replace HI := HI.row_av HI_V_ #[.int .i64 e_, .int .u32 0, .bool false, .slice DA Dn Dc, .slice EA En Ec]
              replace V := V.row_av V_V_ #[.int .i64 e_, .int .u32 0, .bool false, .slice DA Dn Dc, .slice EA En Ec]
              replace F := F.row_av F_V_ #[.int .i64 e_, .int .u32 0, .bool false, .slice DA Dn Dc, .slice EA En Ec]
              replace S2 := S2.row_av S2_V_ #[.int .i64 e_, .int .u32 0, .bool false, .slice DA Dn Dc, .slice EA En Ec]
              replace D := D.row_av D_V_ #[.int .i64 e_, .int .u32 0, .bool false, .slice DA Dn Dc, .slice EA En Ec]
              replace E := E.row_av E_V_ #[.int .i64 e_, .int .u32 0, .bool false, .slice DA Dn Dc, .slice EA En Ec]
              clear hHeld hK K0
              have hHeld := hHeld'
              clear hHeld'
              generalize v22.setRow gV_ #[.int .i64 e_, .int .u32 0, .bool false, .slice DA Dn Dc, .slice EA En Ec] = v23 at hHeld  HI V F S2 D E V_ ⊢
              try simp only [Act.put]
              refine wpAnyH_done (by kernel_rfl) ?_ _
              replace K := hHeld.1
              replace H := hHeld.2.1
              replace Z := hHeld.2.2.1
              clear hHeld
              replace hL := hL0.below K
              replace h := h0.below K
              replace hy := hy0.below K
              go_wp2
              have eg : decide ((q : Int) ≤ (r : Int)) = false := by simp; omega
              have en : (e_ != e_) = false := by simp
              refine wp_region_held_drew (S := fun w' => Below v23.heap.size v23 w') (by kernel_rfl) (Below.refl _ _).drew (fun hHeld => ?_)
              generalize v23.drew = w30 at hHeld ⊢
              refine wpAnyH_take (i := 0) (oi := ⟨some 137, _, _, _, _, _⟩) (v := ?_) rfl (by kernel_rfl) (by kernel_rfl) (by kernel_rfl) (fun _ _ _ h => h) (Or.inl ⟨by rfl, ?_⟩) hHeld ?_
              rotate_left
              · intro ww hSw
                try dsimp only at hSw
                go_simp
                try with_reducible rfl
                try omega
              try simp only [Act.put, List.setIfInBounds_toArray, List.set_cons_zero, List.set_cons_succ]
              refine wpAnyH_take (i := 1) (oi := ⟨some 138, _, _, _, _, _⟩) (v := ?_) rfl (by kernel_rfl) (by kernel_rfl) (by kernel_rfl) (fun _ _ _ h => h) (Or.inl ⟨by rfl, ?_⟩) hHeld ?_
              rotate_left
              · intro ww hSw
                try dsimp only at hSw
                go_simp
                try with_reducible rfl
                try omega
              try simp only [Act.put, List.setIfInBounds_toArray, List.set_cons_zero, List.set_cons_succ]
              refine wpAnyH_take (i := 2) (oi := ⟨some 139, _, _, _, _, _⟩) (v := ?_) rfl (by kernel_rfl) (by kernel_rfl) (by kernel_rfl) (fun _ _ _ h => h) (Or.inl ⟨by rfl, ?_⟩) hHeld ?_
              rotate_left
              · intro ww hSw
                try dsimp only at hSw
                have Z_0 := (Z.below hSw).at_ (v := .int .i64 0) 0 rfl
                have Z_1 := (Z.below hSw).at_ (v := .int .u32 0) 1 rfl
                have Z_2 := (Z.below hSw).at_ (v := .bool false) 2 rfl
                have Z_3 := (Z.below hSw).at_ (v := .slice D5A D5n D5c) 3 rfl
                have Z_4 := (Z.below hSw).at_ (v := .slice (some ⟨b_, o_, none⟩) q Fc) 4 rfl
                have V__0 := (V_.below hSw).at_ (v := .int .i64 e_) 0 rfl
                have V__1 := (V_.below hSw).at_ (v := .int .u32 0) 1 rfl
                have V__2 := (V_.below hSw).at_ (v := .bool false) 2 rfl
                have V__3 := (V_.below hSw).at_ (v := .slice DA Dn Dc) 3 rfl
                have V__4 := (V_.below hSw).at_ (v := .slice EA En Ec) 4 rfl
                have hze := (F.below hSw).here (j := r) hlt
                rw [hz.out] at hze
                go_simp
                try with_reducible rfl
                try omega
              try simp only [Act.put, List.setIfInBounds_toArray, List.set_cons_zero, List.set_cons_succ]
              refine wpAnyH_take (i := 3) (oi := ⟨some 140, _, _, _, _, _⟩) (v := ?_) rfl (by kernel_rfl) (by kernel_rfl) (by kernel_rfl) (fun _ _ _ h => h) (Or.inl ⟨by rfl, ?_⟩) hHeld ?_
              rotate_left
              · intro ww hSw
                try dsimp only at hSw
                go_simp
                try with_reducible rfl
                try omega
              try simp only [Act.put, List.setIfInBounds_toArray, List.set_cons_zero, List.set_cons_succ]
              refine wpAnyH_take (i := 4) (oi := ⟨some 141, _, _, _, _, _⟩) (v := .bool false) rfl (by kernel_rfl) (by kernel_rfl) (by kernel_rfl) (fun _ _ _ h => h) (Or.inl ⟨by rfl, ?_⟩) hHeld ?_
              · intro ww hSw
                try dsimp only at hSw
                go_simp
                try with_reducible rfl
                try omega
              try simp only [Act.put, List.setIfInBounds_toArray, List.set_cons_zero, List.set_cons_succ]
              refine wpAnyH_take (i := 5) (oi := ⟨some 142, _, _, _, _, _⟩) (v := .bool false) rfl (by kernel_rfl) (by kernel_rfl) (by kernel_rfl) (fun _ _ _ h => h) (Or.inl ⟨by rfl, ?_⟩) hHeld ?_
              · intro ww hSw
                try dsimp only at hSw
                go_simp
                try with_reducible rfl
                try omega
              try simp only [Act.put, List.setIfInBounds_toArray, List.set_cons_zero, List.set_cons_succ]
              refine wpAnyH_take (i := 6) (oi := ⟨some 143, _, _, _, _, _⟩) (v := ?_) rfl (by kernel_rfl) (by kernel_rfl) (by kernel_rfl) (fun _ _ _ h => h) (Or.inl ⟨by rfl, ?_⟩) hHeld ?_
              rotate_left
              · intro ww hSw
                try dsimp only at hSw
                go_simp
                try with_reducible rfl
                try omega
              try simp only [Act.put, List.setIfInBounds_toArray, List.set_cons_zero, List.set_cons_succ]
              refine wpAnyH_take (i := 7) (oi := ⟨some 144, _, _, _, _, _⟩) (v := ?_) rfl (by kernel_rfl) (by kernel_rfl) (by kernel_rfl) (fun _ _ _ h => h) (Or.inl ⟨by rfl, ?_⟩) hHeld ?_
              rotate_left
              · intro ww hSw
                try dsimp only at hSw
                have Z_0 := (Z.below hSw).at_ (v := .int .i64 0) 0 rfl
                have Z_1 := (Z.below hSw).at_ (v := .int .u32 0) 1 rfl
                have Z_2 := (Z.below hSw).at_ (v := .bool false) 2 rfl
                have Z_3 := (Z.below hSw).at_ (v := .slice D5A D5n D5c) 3 rfl
                have Z_4 := (Z.below hSw).at_ (v := .slice (some ⟨b_, o_, none⟩) q Fc) 4 rfl
                have V__0 := (V_.below hSw).at_ (v := .int .i64 e_) 0 rfl
                have V__1 := (V_.below hSw).at_ (v := .int .u32 0) 1 rfl
                have V__2 := (V_.below hSw).at_ (v := .bool false) 2 rfl
                have V__3 := (V_.below hSw).at_ (v := .slice DA Dn Dc) 3 rfl
                have V__4 := (V_.below hSw).at_ (v := .slice EA En Ec) 4 rfl
                have hze := (F.below hSw).here (j := r) hlt
                rw [hz.out] at hze
                go_simp
                try with_reducible rfl
                try omega
              try simp only [Act.put, List.setIfInBounds_toArray, List.set_cons_zero, List.set_cons_succ]
              refine wpAnyH_take (i := 8) (oi := ⟨some 145, _, _, _, _, _⟩) (v := ?_) rfl (by kernel_rfl) (by kernel_rfl) (by kernel_rfl) (fun _ _ _ h => h) (Or.inl ⟨by rfl, ?_⟩) hHeld ?_
              rotate_left
              · intro ww hSw
                try dsimp only at hSw
                go_simp
                try with_reducible rfl
                try omega
              try simp only [Act.put, List.setIfInBounds_toArray, List.set_cons_zero, List.set_cons_succ]
              refine wpAnyH_take (i := 9) (oi := ⟨some 146, _, _, _, _, _⟩) (v := ?_) rfl (by kernel_rfl) (by kernel_rfl) (by kernel_rfl) (fun _ _ _ h => h) (Or.inl ⟨by rfl, ?_⟩) hHeld ?_
              rotate_left
              · intro ww hSw
                try dsimp only at hSw
                go_simp
                try with_reducible rfl
                try omega
              try simp only [Act.put, List.setIfInBounds_toArray, List.set_cons_zero, List.set_cons_succ]
              refine wpAnyH_take (i := 10) (oi := ⟨some 147, _, _, _, _, _⟩) (v := ?_) rfl (by kernel_rfl) (by kernel_rfl) (by kernel_rfl) (fun _ _ _ h => h) (Or.inl ⟨by rfl, ?_⟩) hHeld ?_
              rotate_left
              · intro ww hSw
                try dsimp only at hSw
                have Z_0 := (Z.below hSw).at_ (v := .int .i64 0) 0 rfl
                have Z_1 := (Z.below hSw).at_ (v := .int .u32 0) 1 rfl
                have Z_2 := (Z.below hSw).at_ (v := .bool false) 2 rfl
                have Z_3 := (Z.below hSw).at_ (v := .slice D5A D5n D5c) 3 rfl
                have Z_4 := (Z.below hSw).at_ (v := .slice (some ⟨b_, o_, none⟩) q Fc) 4 rfl
                have V__0 := (V_.below hSw).at_ (v := .int .i64 e_) 0 rfl
                have V__1 := (V_.below hSw).at_ (v := .int .u32 0) 1 rfl
                have V__2 := (V_.below hSw).at_ (v := .bool false) 2 rfl
                have V__3 := (V_.below hSw).at_ (v := .slice DA Dn Dc) 3 rfl
                have V__4 := (V_.below hSw).at_ (v := .slice EA En Ec) 4 rfl
                have hze := (F.below hSw).here (j := r) hlt
                rw [hz.out] at hze
                go_simp
                try with_reducible rfl
                try omega
              try simp only [Act.put, List.setIfInBounds_toArray, List.set_cons_zero, List.set_cons_succ]
              refine wpAnyH_take (i := 11) (oi := ⟨some 148, _, _, _, _, _⟩) (v := ?_) rfl (by kernel_rfl) (by kernel_rfl) (by kernel_rfl) (fun _ _ _ h => h) (Or.inl ⟨by rfl, ?_⟩) hHeld ?_
              rotate_left
              · intro ww hSw
                try dsimp only at hSw
                go_simp
                try with_reducible rfl
                try omega
              try simp only [Act.put, List.setIfInBounds_toArray, List.set_cons_zero, List.set_cons_succ]
              refine wpAnyH_take (i := 12) (oi := ⟨some 149, _, _, _, _, _⟩) (v := ?_) rfl (by kernel_rfl) (by kernel_rfl) (by kernel_rfl) (fun _ _ _ h => h) (Or.inl ⟨by rfl, ?_⟩) hHeld ?_
              rotate_left
              · intro ww hSw
                try dsimp only at hSw
                have Z_0 := (Z.below hSw).at_ (v := .int .i64 0) 0 rfl
                have Z_1 := (Z.below hSw).at_ (v := .int .u32 0) 1 rfl
                have Z_2 := (Z.below hSw).at_ (v := .bool false) 2 rfl
                have Z_3 := (Z.below hSw).at_ (v := .slice D5A D5n D5c) 3 rfl
                have Z_4 := (Z.below hSw).at_ (v := .slice (some ⟨b_, o_, none⟩) q Fc) 4 rfl
                have V__0 := (V_.below hSw).at_ (v := .int .i64 e_) 0 rfl
                have V__1 := (V_.below hSw).at_ (v := .int .u32 0) 1 rfl
                have V__2 := (V_.below hSw).at_ (v := .bool false) 2 rfl
                have V__3 := (V_.below hSw).at_ (v := .slice DA Dn Dc) 3 rfl
                have V__4 := (V_.below hSw).at_ (v := .slice EA En Ec) 4 rfl
                have hze := (F.below hSw).here (j := r) hlt
                rw [hz.out] at hze
                go_simp
                try with_reducible rfl
                try omega
              try simp only [Act.put, List.setIfInBounds_toArray, List.set_cons_zero, List.set_cons_succ]
              refine wpAnyH_take (i := 13) (oi := ⟨some 150, _, _, _, _, _⟩) (v := .bool false) rfl (by kernel_rfl) (by kernel_rfl) (by kernel_rfl) (fun _ _ _ h => h) (Or.inl ⟨by rfl, ?_⟩) hHeld ?_
              · intro ww hSw
                try dsimp only at hSw
                go_simp
                try with_reducible rfl
                try omega
              try simp only [Act.put, List.setIfInBounds_toArray, List.set_cons_zero, List.set_cons_succ]
              refine wpAnyH_take (i := 14) (oi := ⟨some 151, _, _, _, _, _⟩) (v := .bool false) rfl (by kernel_rfl) (by kernel_rfl) (by kernel_rfl) (fun _ _ _ h => h) (Or.inl ⟨by rfl, ?_⟩) hHeld ?_
              · intro ww hSw
                try dsimp only at hSw
                go_simp
                try with_reducible rfl
                try omega
              try simp only [Act.put, List.setIfInBounds_toArray, List.set_cons_zero, List.set_cons_succ]
              refine wpAnyH_done (by kernel_rfl) ?_ _
              replace H := H.below hHeld
              replace Z := Z.below hHeld
              replace V_ := V_.below hHeld
              replace hL := hL.below hHeld
              replace h := h.below hHeld
              replace hy := hy.below hHeld
              replace HI := HI.below hHeld
              replace V := V.below hHeld
              replace F := F.below hHeld
              replace S2 := S2.below hHeld
              replace D := D.below hHeld
              replace E := E.below hHeld
              replace K := Below.then_ K hHeld
              clear hHeld
              go_wp2
              go_roundw
              case rel => exact ⟨r + 1, _, _, _, by omega, by go_num, rfl, Lib.hid S2, Lib.hid V, Lib.hid F, Lib.hid H, Lib.hid Z, K⟩
              case measure => simp [intOf]; omega
            refine AllReadyH.cons (o := ⟨some 27, _, _, _, _, _⟩) rfl (fun K0 hK => ?_) AllReadyH.nil
            have K' := below_alloc v20 (.cells #[.int .i64 0, .int .u32 0, .bool false, .slice none 0 0, .slice none 0 0] 34)
            have V_ := Bk.new v20 #[.int .i64 0, .int .u32 0, .bool false, .slice none 0 0, .slice none 0 0] 34
            have KS := hHeld.1.size
            have V__b : w.heap.size ≤ v20.heap.size := by omega
            have ne_H_V_ : gH ≠ v20.heap.size := by have := (hHeld.2.1).lt; omega
            have ne_Z_V_ : gZ ≠ v20.heap.size := by have := (hHeld.2.2.1).lt; omega
            have HI_V_ := HI.av_old (Nat.le_refl v20.heap.size)
            have V_V_ := V.av_old (Nat.le_refl v20.heap.size)
            have F_V_ := F.av_old (Nat.le_refl v20.heap.size)
            clear KS
            go_simp
            refine hK.out _ _ ⟨Below.then_ hHeld.1 K', hHeld.2.1.below K', hHeld.2.2.1.below K', trivial⟩ (fun hHeld' => ?_)
            replace HI := HI.below K'
            replace V := V.below K'
            replace F := F.below K'
            clear hHeld hK K0 K'
            have hHeld := hHeld'
            clear hHeld'
            generalize v20.alloc (.cells #[.int .i64 0, .int .u32 0, .bool false, .slice none 0 0, .slice none 0 0] 34) = v21 at hHeld V_ HI V F ⊢
            generalize v20.heap.size = gV_ at V_ V__b ne_H_V_ ne_Z_V_ HI_V_ V_V_ F_V_ ⊢
            try simp only [Act.put, List.setIfInBounds_toArray, List.set_cons_zero, List.set_cons_succ]
            refine wpAnyH_ready (rs := [7]) (by kernel_rfl) (by simp) ?_
            refine AllReadyH.cons (o := ⟨some 134, _, _, _, _, _⟩) rfl (fun K0 hK => ?_) AllReadyH.nil
            go_simp
            refine (some_at (k := 3) (X := y) (xi := (y : Int)) (ys := []) (sh := sh) (wo := wo) (qu := qu) (tr := tr) (hL0.below hHeld.1) ha hM (h0.below hHeld.1) hn HI hn1 (RS r).out rfl hyb (IS.none_ .u32 0 _) (by omega) (fun y hy => by cases hy) hso.out).mono ?_
            have H_l := (hHeld.2.1).lt
            have Z_l := (hHeld.2.2.1).lt
            have V__l := V_.lt
            rintro e v22 ⟨S2A, S2n, S2c, DA, Dn, Dc, EA, En, Ec, rfl, S2, hav, D, E, K'⟩
            have S2_V_ := hav gV_ V__l HI_V_
            have D_V_ := D.av V__l
            have E_V_ := E.av V__l
            replace D := D.lower (Nat.zero_le _)
            replace E := E.lower (Nat.zero_le _)
            clear hav
            refine hK.out _ _ ⟨Below.then_ hHeld.1 K', hHeld.2.1.below K', hHeld.2.2.1.below K', trivial⟩ (fun hHeld' => ?_)
            replace HI := HI.below K'
            replace V := V.below K'
            replace F := F.below K'
            replace V_ := V_.below K'
            clear hHeld K' hK K0
            clear H_l Z_l V__l
            have hHeld := hHeld'
            clear hHeld'
            try simp only [Act.put, List.setIfInBounds_toArray, List.set_cons_zero, List.set_cons_succ]
            refine wpAnyH_take (i := 8) (oi := ⟨some 126, _, _, _, _, _⟩) (v := ?_) rfl (by kernel_rfl) (by kernel_rfl) (by kernel_rfl) (fun _ _ _ h => h) (Or.inl ⟨by rfl, ?_⟩) hHeld ?_
            rotate_left
            · intro ww hSw
              try dsimp only at hSw
              go_simp
              try with_reducible rfl
              try omega
            try simp only [Act.put, List.setIfInBounds_toArray, List.set_cons_zero, List.set_cons_succ]
            refine wpAnyH_take (i := 9) (oi := ⟨some 135, _, _, _, _, _⟩) (v := ?_) rfl (by kernel_rfl) (by kernel_rfl) (by kernel_rfl) (fun _ _ _ h => h) (Or.inl ⟨by rfl, ?_⟩) hHeld ?_
            rotate_left
            · intro ww hSw
              try dsimp only at hSw
              go_simp
              try with_reducible rfl
              try omega
            try simp only [Act.put, List.setIfInBounds_toArray, List.set_cons_zero, List.set_cons_succ]
            refine wpAnyH_take (i := 10) (oi := ⟨some 136, _, _, _, _, _⟩) (v := ?_) rfl (by kernel_rfl) (by kernel_rfl) (by kernel_rfl) (fun _ _ _ h => h) (Or.inl ⟨by rfl, ?_⟩) hHeld ?_
            rotate_left
            · intro ww hSw
              try dsimp only at hSw
              go_simp
              try with_reducible rfl
              try omega
            try simp only [Act.put, List.setIfInBounds_toArray, List.set_cons_zero, List.set_cons_succ]
            refine wpAnyH_take (i := 12) (oi := ⟨some 26, _, _, _, _, _⟩) (v := ?_) rfl (by kernel_rfl) (by kernel_rfl) (by kernel_rfl) (fun _ _ _ h => h) (Or.inl ⟨by rfl, ?_⟩) hHeld ?_
            rotate_left
            · intro ww hSw
              try dsimp only at hSw
              go_simp
              try with_reducible rfl
              try omega
            try simp only [Act.put, List.setIfInBounds_toArray, List.set_cons_zero, List.set_cons_succ]
            refine wpAnyH_ready (rs := [13]) (by kernel_rfl) (by simp) ?_
            refine AllReadyH.cons (o := ⟨none, _, _, _, _, _⟩) rfl (fun K0 hK => ?_) AllReadyH.nil
            rw [if_pos (by rfl)]
            refine wp_store_row 34 (.tmp 27) (.tmp 136) rfl gV_ _ rfl (show _ = Value.agg #[.int .i64 e_, .int .u32 0, .bool false, .slice DA Dn Dc, .slice EA En Ec] from rfl) _ _ V_ an_sz rfl (by simp [Value.oneCell']) ?_
            replace V_ := Bk.row V_ #[.int .i64 e_, .int .u32 0, .bool false, .slice DA Dn Dc, .slice EA En Ec]
            refine hK.out _ _ ⟨below_setRow hHeld.1 V__b _, hHeld.2.1.row_far ne_H_V_ _, hHeld.2.2.1.row_far ne_Z_V_ _, trivial⟩ (fun hHeld' => ?_)
            replace HI := HI.row_av HI_V_ #[.int .i64 e_, .int .u32 0, .bool false, .slice DA Dn Dc, .slice EA En Ec]
            replace V := V.row_av V_V_ #[.int .i64 e_, .int .u32 0, .bool false, .slice DA Dn Dc, .slice EA En Ec]
            replace F := F.row_av F_V_ #[.int .i64 e_, .int .u32 0, .bool false, .slice DA Dn Dc, .slice EA En Ec]
            replace S2 := S2.row_av S2_V_ #[.int .i64 e_, .int .u32 0, .bool false, .slice DA Dn Dc, .slice EA En Ec]
            replace D := D.row_av D_V_ #[.int .i64 e_, .int .u32 0, .bool false, .slice DA Dn Dc, .slice EA En Ec]
            replace E := E.row_av E_V_ #[.int .i64 e_, .int .u32 0, .bool false, .slice DA Dn Dc, .slice EA En Ec]
            clear hHeld hK K0
            have hHeld := hHeld'
            clear hHeld'
            generalize v22.setRow gV_ #[.int .i64 e_, .int .u32 0, .bool false, .slice DA Dn Dc, .slice EA En Ec] = v23 at hHeld  HI V F V_ S2 D E ⊢
            try simp only [Act.put]
            refine wpAnyH_done (by kernel_rfl) ?_ _
            replace K := hHeld.1
            replace H := hHeld.2.1
            replace Z := hHeld.2.2.1
            clear hHeld
            replace hL := hL0.below K
            replace h := h0.below K
            replace hy := hy0.below K
            go_wp2
            have eg : decide ((q : Int) ≤ (r : Int)) = false := by simp; omega
            have en : (e_ != e_) = false := by simp
            refine wp_region_held_drew (S := fun w' => Below v23.heap.size v23 w') (by kernel_rfl) (Below.refl _ _).drew (fun hHeld => ?_)
            generalize v23.drew = w30 at hHeld ⊢
            refine wpAnyH_take (i := 0) (oi := ⟨some 137, _, _, _, _, _⟩) (v := ?_) rfl (by kernel_rfl) (by kernel_rfl) (by kernel_rfl) (fun _ _ _ h => h) (Or.inl ⟨by rfl, ?_⟩) hHeld ?_
            rotate_left
            · intro ww hSw
              try dsimp only at hSw
              go_simp
              try with_reducible rfl
              try omega
            try simp only [Act.put, List.setIfInBounds_toArray, List.set_cons_zero, List.set_cons_succ]
            refine wpAnyH_take (i := 1) (oi := ⟨some 138, _, _, _, _, _⟩) (v := ?_) rfl (by kernel_rfl) (by kernel_rfl) (by kernel_rfl) (fun _ _ _ h => h) (Or.inl ⟨by rfl, ?_⟩) hHeld ?_
            rotate_left
            · intro ww hSw
              try dsimp only at hSw
              go_simp
              try with_reducible rfl
              try omega
            try simp only [Act.put, List.setIfInBounds_toArray, List.set_cons_zero, List.set_cons_succ]
            refine wpAnyH_take (i := 2) (oi := ⟨some 139, _, _, _, _, _⟩) (v := ?_) rfl (by kernel_rfl) (by kernel_rfl) (by kernel_rfl) (fun _ _ _ h => h) (Or.inl ⟨by rfl, ?_⟩) hHeld ?_
            rotate_left
            · intro ww hSw
              try dsimp only at hSw
              have Z_0 := (Z.below hSw).at_ (v := .int .i64 0) 0 rfl
              have Z_1 := (Z.below hSw).at_ (v := .int .u32 0) 1 rfl
              have Z_2 := (Z.below hSw).at_ (v := .bool false) 2 rfl
              have Z_3 := (Z.below hSw).at_ (v := .slice D5A D5n D5c) 3 rfl
              have Z_4 := (Z.below hSw).at_ (v := .slice (some ⟨b_, o_, none⟩) q Fc) 4 rfl
              have V__0 := (V_.below hSw).at_ (v := .int .i64 e_) 0 rfl
              have V__1 := (V_.below hSw).at_ (v := .int .u32 0) 1 rfl
              have V__2 := (V_.below hSw).at_ (v := .bool false) 2 rfl
              have V__3 := (V_.below hSw).at_ (v := .slice DA Dn Dc) 3 rfl
              have V__4 := (V_.below hSw).at_ (v := .slice EA En Ec) 4 rfl
              have hze := (F.below hSw).here (j := r) hlt
              rw [hz.out] at hze
              go_simp
              try with_reducible rfl
              try omega
            try simp only [Act.put, List.setIfInBounds_toArray, List.set_cons_zero, List.set_cons_succ]
            refine wpAnyH_take (i := 3) (oi := ⟨some 140, _, _, _, _, _⟩) (v := ?_) rfl (by kernel_rfl) (by kernel_rfl) (by kernel_rfl) (fun _ _ _ h => h) (Or.inl ⟨by rfl, ?_⟩) hHeld ?_
            rotate_left
            · intro ww hSw
              try dsimp only at hSw
              go_simp
              try with_reducible rfl
              try omega
            try simp only [Act.put, List.setIfInBounds_toArray, List.set_cons_zero, List.set_cons_succ]
            refine wpAnyH_take (i := 4) (oi := ⟨some 141, _, _, _, _, _⟩) (v := .bool false) rfl (by kernel_rfl) (by kernel_rfl) (by kernel_rfl) (fun _ _ _ h => h) (Or.inl ⟨by rfl, ?_⟩) hHeld ?_
            · intro ww hSw
              try dsimp only at hSw
              go_simp
              try with_reducible rfl
              try omega
            try simp only [Act.put, List.setIfInBounds_toArray, List.set_cons_zero, List.set_cons_succ]
            refine wpAnyH_take (i := 5) (oi := ⟨some 142, _, _, _, _, _⟩) (v := .bool false) rfl (by kernel_rfl) (by kernel_rfl) (by kernel_rfl) (fun _ _ _ h => h) (Or.inl ⟨by rfl, ?_⟩) hHeld ?_
            · intro ww hSw
              try dsimp only at hSw
              go_simp
              try with_reducible rfl
              try omega
            try simp only [Act.put, List.setIfInBounds_toArray, List.set_cons_zero, List.set_cons_succ]
            refine wpAnyH_take (i := 6) (oi := ⟨some 143, _, _, _, _, _⟩) (v := ?_) rfl (by kernel_rfl) (by kernel_rfl) (by kernel_rfl) (fun _ _ _ h => h) (Or.inl ⟨by rfl, ?_⟩) hHeld ?_
            rotate_left
            · intro ww hSw
              try dsimp only at hSw
              go_simp
              try with_reducible rfl
              try omega
            try simp only [Act.put, List.setIfInBounds_toArray, List.set_cons_zero, List.set_cons_succ]
            refine wpAnyH_take (i := 7) (oi := ⟨some 144, _, _, _, _, _⟩) (v := ?_) rfl (by kernel_rfl) (by kernel_rfl) (by kernel_rfl) (fun _ _ _ h => h) (Or.inl ⟨by rfl, ?_⟩) hHeld ?_
            rotate_left
            · intro ww hSw
              try dsimp only at hSw
              have Z_0 := (Z.below hSw).at_ (v := .int .i64 0) 0 rfl
              have Z_1 := (Z.below hSw).at_ (v := .int .u32 0) 1 rfl
              have Z_2 := (Z.below hSw).at_ (v := .bool false) 2 rfl
              have Z_3 := (Z.below hSw).at_ (v := .slice D5A D5n D5c) 3 rfl
              have Z_4 := (Z.below hSw).at_ (v := .slice (some ⟨b_, o_, none⟩) q Fc) 4 rfl
              have V__0 := (V_.below hSw).at_ (v := .int .i64 e_) 0 rfl
              have V__1 := (V_.below hSw).at_ (v := .int .u32 0) 1 rfl
              have V__2 := (V_.below hSw).at_ (v := .bool false) 2 rfl
              have V__3 := (V_.below hSw).at_ (v := .slice DA Dn Dc) 3 rfl
              have V__4 := (V_.below hSw).at_ (v := .slice EA En Ec) 4 rfl
              have hze := (F.below hSw).here (j := r) hlt
              rw [hz.out] at hze
              go_simp
              try with_reducible rfl
              try omega
            try simp only [Act.put, List.setIfInBounds_toArray, List.set_cons_zero, List.set_cons_succ]
            refine wpAnyH_take (i := 8) (oi := ⟨some 145, _, _, _, _, _⟩) (v := ?_) rfl (by kernel_rfl) (by kernel_rfl) (by kernel_rfl) (fun _ _ _ h => h) (Or.inl ⟨by rfl, ?_⟩) hHeld ?_
            rotate_left
            · intro ww hSw
              try dsimp only at hSw
              go_simp
              try with_reducible rfl
              try omega
            try simp only [Act.put, List.setIfInBounds_toArray, List.set_cons_zero, List.set_cons_succ]
            refine wpAnyH_take (i := 9) (oi := ⟨some 146, _, _, _, _, _⟩) (v := ?_) rfl (by kernel_rfl) (by kernel_rfl) (by kernel_rfl) (fun _ _ _ h => h) (Or.inl ⟨by rfl, ?_⟩) hHeld ?_
            rotate_left
            · intro ww hSw
              try dsimp only at hSw
              go_simp
              try with_reducible rfl
              try omega
            try simp only [Act.put, List.setIfInBounds_toArray, List.set_cons_zero, List.set_cons_succ]
            refine wpAnyH_take (i := 10) (oi := ⟨some 147, _, _, _, _, _⟩) (v := ?_) rfl (by kernel_rfl) (by kernel_rfl) (by kernel_rfl) (fun _ _ _ h => h) (Or.inl ⟨by rfl, ?_⟩) hHeld ?_
            rotate_left
            · intro ww hSw
              try dsimp only at hSw
              have Z_0 := (Z.below hSw).at_ (v := .int .i64 0) 0 rfl
              have Z_1 := (Z.below hSw).at_ (v := .int .u32 0) 1 rfl
              have Z_2 := (Z.below hSw).at_ (v := .bool false) 2 rfl
              have Z_3 := (Z.below hSw).at_ (v := .slice D5A D5n D5c) 3 rfl
              have Z_4 := (Z.below hSw).at_ (v := .slice (some ⟨b_, o_, none⟩) q Fc) 4 rfl
              have V__0 := (V_.below hSw).at_ (v := .int .i64 e_) 0 rfl
              have V__1 := (V_.below hSw).at_ (v := .int .u32 0) 1 rfl
              have V__2 := (V_.below hSw).at_ (v := .bool false) 2 rfl
              have V__3 := (V_.below hSw).at_ (v := .slice DA Dn Dc) 3 rfl
              have V__4 := (V_.below hSw).at_ (v := .slice EA En Ec) 4 rfl
              have hze := (F.below hSw).here (j := r) hlt
              rw [hz.out] at hze
              go_simp
              try with_reducible rfl
              try omega
            try simp only [Act.put, List.setIfInBounds_toArray, List.set_cons_zero, List.set_cons_succ]
            refine wpAnyH_take (i := 11) (oi := ⟨some 148, _, _, _, _, _⟩) (v := ?_) rfl (by kernel_rfl) (by kernel_rfl) (by kernel_rfl) (fun _ _ _ h => h) (Or.inl ⟨by rfl, ?_⟩) hHeld ?_
            rotate_left
            · intro ww hSw
              try dsimp only at hSw
              go_simp
              try with_reducible rfl
              try omega
            try simp only [Act.put, List.setIfInBounds_toArray, List.set_cons_zero, List.set_cons_succ]
            refine wpAnyH_take (i := 12) (oi := ⟨some 149, _, _, _, _, _⟩) (v := ?_) rfl (by kernel_rfl) (by kernel_rfl) (by kernel_rfl) (fun _ _ _ h => h) (Or.inl ⟨by rfl, ?_⟩) hHeld ?_
            rotate_left
            · intro ww hSw
              try dsimp only at hSw
              have Z_0 := (Z.below hSw).at_ (v := .int .i64 0) 0 rfl
              have Z_1 := (Z.below hSw).at_ (v := .int .u32 0) 1 rfl
              have Z_2 := (Z.below hSw).at_ (v := .bool false) 2 rfl
              have Z_3 := (Z.below hSw).at_ (v := .slice D5A D5n D5c) 3 rfl
              have Z_4 := (Z.below hSw).at_ (v := .slice (some ⟨b_, o_, none⟩) q Fc) 4 rfl
              have V__0 := (V_.below hSw).at_ (v := .int .i64 e_) 0 rfl
              have V__1 := (V_.below hSw).at_ (v := .int .u32 0) 1 rfl
              have V__2 := (V_.below hSw).at_ (v := .bool false) 2 rfl
              have V__3 := (V_.below hSw).at_ (v := .slice DA Dn Dc) 3 rfl
              have V__4 := (V_.below hSw).at_ (v := .slice EA En Ec) 4 rfl
              have hze := (F.below hSw).here (j := r) hlt
              rw [hz.out] at hze
              go_simp
              try with_reducible rfl
              try omega
            try simp only [Act.put, List.setIfInBounds_toArray, List.set_cons_zero, List.set_cons_succ]
            refine wpAnyH_take (i := 13) (oi := ⟨some 150, _, _, _, _, _⟩) (v := .bool false) rfl (by kernel_rfl) (by kernel_rfl) (by kernel_rfl) (fun _ _ _ h => h) (Or.inl ⟨by rfl, ?_⟩) hHeld ?_
            · intro ww hSw
              try dsimp only at hSw
              go_simp
              try with_reducible rfl
              try omega
            try simp only [Act.put, List.setIfInBounds_toArray, List.set_cons_zero, List.set_cons_succ]
            refine wpAnyH_take (i := 14) (oi := ⟨some 151, _, _, _, _, _⟩) (v := .bool false) rfl (by kernel_rfl) (by kernel_rfl) (by kernel_rfl) (fun _ _ _ h => h) (Or.inl ⟨by rfl, ?_⟩) hHeld ?_
            · intro ww hSw
              try dsimp only at hSw
              go_simp
              try with_reducible rfl
              try omega
            try simp only [Act.put, List.setIfInBounds_toArray, List.set_cons_zero, List.set_cons_succ]
            refine wpAnyH_done (by kernel_rfl) ?_ _
            replace H := H.below hHeld
            replace Z := Z.below hHeld
            replace V_ := V_.below hHeld
            replace hL := hL.below hHeld
            replace h := h.below hHeld
            replace hy := hy.below hHeld
            replace HI := HI.below hHeld
            replace V := V.below hHeld
            replace F := F.below hHeld
            replace S2 := S2.below hHeld
            replace D := D.below hHeld
            replace E := E.below hHeld
            replace K := Below.then_ K hHeld
            clear hHeld
            go_wp2
            go_roundw
            case rel => exact ⟨r + 1, _, _, _, by omega, by go_num, rfl, Lib.hid S2, Lib.hid V, Lib.hid F, Lib.hid H, Lib.hid Z, K⟩
            case measure => simp [intOf]; omega
          · obtain rfl : q = r := by omega
            rw [List.take_of_length_le (by omega)] at HI
            go_wp2_with fail
            refine (ints_same V HI (by omega)).mono ?_
            rintro e w20 ⟨rfl, K'⟩
            replace H := H.below K'
            replace Z := Z.below K'
            replace hL := hL.below K'
            replace h := h.below K'
            replace hy := hy.below K'
            replace HI := HI.below K'
            replace V := V.below K'
            replace F := F.below K'
            replace K := Below.then_ K K'
            clear K'
            have Z_0 := Z.at_ (v := .int .i64 0) 0 rfl
            have Z_1 := Z.at_ (v := .int .u32 0) 1 rfl
            have Z_2 := Z.at_ (v := .bool false) 2 rfl
            have Z_3 := Z.at_ (v := .slice D5A D5n D5c) 3 rfl
            have Z_4 := Z.at_ (v := .slice FA q Fc) 4 rfl
            have Z_z := Z.lt
            go_wp2
            go_ret
            exact ⟨rfl, K⟩
      · have e3 : (eb != 0) = true := by simp [heb0]
        clear heb0
        go_wp2
        go_ret
        exact ⟨rfl, K⟩
    · have ex : (ax.1 == 0) = false := by simp [ha0]
      replace ha0 := Lib.hid ha0
      have X1_0 := X1.at_ (v := .int .i64 ax.1) 0 rfl
      have X1_1 := X1.at_ (v := .int .u32 ax.2.1) 1 rfl
      have X1_2 := X1.at_ (v := .bool ax.2.2.1) 2 rfl
      have X1_3 := X1.at_ (v := .slice D1A D1n D1c) 3 rfl
      have X1_4 := X1.at_ (v := .slice E1A E1n E1c) 4 rfl
      have X1_z := X1.lt
      have X2_0 := X2.at_ (v := .int .i64 0) 0 rfl
      have X2_1 := X2.at_ (v := .int .u32 0) 1 rfl
      have X2_2 := X2.at_ (v := .bool false) 2 rfl
      have X2_3 := X2.at_ (v := .slice D2A D2n D2c) 3 rfl
      have X2_4 := X2.at_ (v := .slice E2A E2n E2c) 4 rfl
      have X2_z := X2.lt
      have X3_0 := X3.at_ (v := .int .i64 5) 0 rfl
      have X3_1 := X3.at_ (v := .int .u32 0) 1 rfl
      have X3_2 := X3.at_ (v := .bool false) 2 rfl
      have X3_3 := X3.at_ (v := .slice D3A D3n D3c) 3 rfl
      have X3_4 := X3.at_ (v := .slice E3A E3n E3c) 4 rfl
      have X3_z := X3.lt
      have X4_0 := X4.at_ (v := .int .i64 6) 0 rfl
      have X4_1 := X4.at_ (v := .int .u32 0) 1 rfl
      have X4_2 := X4.at_ (v := .bool false) 2 rfl
      have X4_3 := X4.at_ (v := .slice D4A D4n D4c) 3 rfl
      have X4_4 := X4.at_ (v := .slice E4A E4n E4c) 4 rfl
      have X4_z := X4.lt
      go_upto_region 14 with (fail)
      clear X1_0 X1_1 X1_2 X1_3 X1_4 X1_z
      clear X2_0 X2_1 X2_2 X2_3 X2_4 X2_z
      clear X3_0 X3_1 X3_2 X3_3 X3_4 X3_z
      clear X4_0 X4_1 X4_2 X4_3 X4_4 X4_z
      clear X1
      clear X2
      clear X3
      clear X4
      clear G1
      clear G2
      go_upto_region 15 with (first | (refine wpList_store_row rfl 30 (.tmp 21) (.tmp 107) rfl _ _ rfl (show _ = Value.agg #[.int .i64 4, .int .u32 0, .slice C q f] from rfl) _ _ (Bk.new _ _ _) ak_sz rfl (by simp [Value.oneCell']) ?_))
      try rw [World.setRow_alloc_new]
      have KS := K.size
      have H_l := H.lt
      replace H := H.alloc (.cells #[.int .i64 4, .int .u32 0, .slice C q f] 30)
      replace hL := hL.below (below_alloc _ (.cells #[.int .i64 4, .int .u32 0, .slice C q f] 30))
      replace h := h.below (below_alloc _ (.cells #[.int .i64 4, .int .u32 0, .slice C q f] 30))
      replace hs := hs.below (below_alloc _ (.cells #[.int .i64 4, .int .u32 0, .slice C q f] 30))
      replace hy := hy.below (below_alloc _ (.cells #[.int .i64 4, .int .u32 0, .slice C q f] 30))
      replace T := T.below (below_alloc _ (.cells #[.int .i64 4, .int .u32 0, .slice C q f] 30))
      replace U := U.below (below_alloc _ (.cells #[.int .i64 4, .int .u32 0, .slice C q f] 30))
      replace K := Below.then_ K (below_alloc _ (.cells #[.int .i64 4, .int .u32 0, .slice C q f] 30))
      have GB := Bk.new (w14) #[.int .i64 4, .int .u32 0, .slice C q f] 30
      try simp only [World.size_alloc] at GB
      generalize (w14).alloc (.cells #[.int .i64 4, .int .u32 0, .slice C q f] 30) = w15 at H GB hL h hs hy T U K ⊢
      generalize hgGB : w14.heap.size = gGB at GB ⊢
      have GB_b : w.heap.size ≤ gGB := by omega
      have ne_H_GB : gH ≠ gGB := by omega
      clear KS hgGB H_l
      obtain ⟨eb, heb⟩ : ∃ e, askE a M zs 4 ((0 : Nat) : Int) ys = e := ⟨_, rfl⟩
      replace heb := Lib.hid heb
      have H_0 := H.at_ (v := .int .u32 (a : Int)) 0 rfl
      have H_1 := H.at_ (v := .int .i64 p) 1 rfl
      have H_2 := H.at_ (v := .slice A n c) 2 rfl
      have H_3 := H.at_ (v := .int .i64 sh) 3 rfl
      have H_4 := H.at_ (v := .int .i64 wo) 4 rfl
      have H_5 := H.at_ (v := .int .i64 qu) 5 rfl
      have H_6 := H.at_ (v := .int .i64 tr) 6 rfl
      have H_z := H.lt
      have GB_0 := GB.at_ (v := .int .i64 4) 0 rfl
      have GB_1 := GB.at_ (v := .int .u32 0) 1 rfl
      have GB_2 := GB.at_ (v := .slice C q f) 2 rfl
      have GB_z := GB.lt
      go_wp2_with fail
      refine (rcheck_is (k := 4) (X := 0) hM h hn hy (by omega) (by omega) hw.out heb.out).mono ?_
      rintro e w16 ⟨rfl, K'⟩
      clear H_0 H_1 H_2 H_3 H_4 H_5 H_6 H_z
      clear GB_0 GB_1 GB_2 GB_z
      replace H := H.below K'
      replace GB := GB.below K'
      replace hL := hL.below K'
      replace h := h.below K'
      replace hs := hs.below K'
      replace hy := hy.below K'
      replace T := T.below K'
      replace U := U.below K'
      replace K := Below.then_ K K'
      clear K'
      by_cases heb0 : eb = 0
      · subst heb0
        obtain ⟨hbs, hfi⟩ := bat_ok (xs := xs) heb.out
        replace hbs := Lib.hid hbs
        replace hfi := Lib.hid hfi
        have H_0 := H.at_ (v := .int .u32 (a : Int)) 0 rfl
        have H_1 := H.at_ (v := .int .i64 p) 1 rfl
        have H_2 := H.at_ (v := .slice A n c) 2 rfl
        have H_3 := H.at_ (v := .int .i64 sh) 3 rfl
        have H_4 := H.at_ (v := .int .i64 wo) 4 rfl
        have H_5 := H.at_ (v := .int .i64 qu) 5 rfl
        have H_6 := H.at_ (v := .int .i64 tr) 6 rfl
        have H_z := H.lt
        have GB_0 := GB.at_ (v := .int .i64 4) 0 rfl
        have GB_1 := GB.at_ (v := .int .u32 0) 1 rfl
        have GB_2 := GB.at_ (v := .slice C q f) 2 rfl
        have GB_z := GB.lt
        go_wp2_with fail
        refine (some_at (k := 4) (X := 0) (xi := 0) (sh := sh) (wo := wo) (qu := qu) (tr := tr) hL ha hM h hn hs hm hx.out rfl (by omega) hy (by omega) hw.out hbs.out).mono ?_
        clear H_0 H_1 H_2 H_3 H_4 H_5 H_6 H_z
        clear GB_0 GB_1 GB_2 GB_z
        rintro e w17 ⟨VA, Vn, Vc, D5A, D5n, D5c, FA, Fn, Fc, rfl, V, hav, D5, F, K'⟩
        clear hav D5
        replace H := H.below K'
        replace GB := GB.below K'
        replace hL := hL.below K'
        replace h := h.below K'
        replace hs := hs.below K'
        replace hy := hy.below K'
        replace T := T.below K'
        replace U := U.below K'
        replace K := Below.then_ K K'
        clear K'
        have hql := hy0.len
        obtain rfl : q = Fn := by rw [← F.len, ← hql]; exact (batE_len ys).symm
        go_upto_region 18 with (first | (refine wpList_store_row rfl 34 (.tmp 23) (.tmp 118) rfl _ _ rfl (show _ = Value.agg #[.int .i64 0, .int .u32 0, .bool false, .slice D5A D5n D5c, .slice FA q Fc] from rfl) _ _ (Bk.new _ _ _) an_sz rfl (by simp [Value.oneCell']) ?_))
        try rw [World.setRow_alloc_new]
        have KS := K.size
        have H_l := H.lt
        have GB_l := GB.lt
        replace H := H.alloc (.cells #[.int .i64 0, .int .u32 0, .bool false, .slice D5A D5n D5c, .slice FA q Fc] 34)
        replace GB := GB.alloc (.cells #[.int .i64 0, .int .u32 0, .bool false, .slice D5A D5n D5c, .slice FA q Fc] 34)
        replace hL := hL.below (below_alloc _ (.cells #[.int .i64 0, .int .u32 0, .bool false, .slice D5A D5n D5c, .slice FA q Fc] 34))
        replace h := h.below (below_alloc _ (.cells #[.int .i64 0, .int .u32 0, .bool false, .slice D5A D5n D5c, .slice FA q Fc] 34))
        replace hs := hs.below (below_alloc _ (.cells #[.int .i64 0, .int .u32 0, .bool false, .slice D5A D5n D5c, .slice FA q Fc] 34))
        replace hy := hy.below (below_alloc _ (.cells #[.int .i64 0, .int .u32 0, .bool false, .slice D5A D5n D5c, .slice FA q Fc] 34))
        replace T := T.below (below_alloc _ (.cells #[.int .i64 0, .int .u32 0, .bool false, .slice D5A D5n D5c, .slice FA q Fc] 34))
        replace U := U.below (below_alloc _ (.cells #[.int .i64 0, .int .u32 0, .bool false, .slice D5A D5n D5c, .slice FA q Fc] 34))
        replace V := V.below (below_alloc _ (.cells #[.int .i64 0, .int .u32 0, .bool false, .slice D5A D5n D5c, .slice FA q Fc] 34))
        replace F := F.below (below_alloc _ (.cells #[.int .i64 0, .int .u32 0, .bool false, .slice D5A D5n D5c, .slice FA q Fc] 34))
        replace K := Below.then_ K (below_alloc _ (.cells #[.int .i64 0, .int .u32 0, .bool false, .slice D5A D5n D5c, .slice FA q Fc] 34))
        have Z := Bk.new (w17) #[.int .i64 0, .int .u32 0, .bool false, .slice D5A D5n D5c, .slice FA q Fc] 34
        try simp only [World.size_alloc] at Z
        generalize (w17).alloc (.cells #[.int .i64 0, .int .u32 0, .bool false, .slice D5A D5n D5c, .slice FA q Fc] 34) = w18 at H GB Z hL h hs hy T U V F K ⊢
        generalize hgZ : w17.heap.size = gZ at Z ⊢
        have Z_b : w.heap.size ≤ gZ := by omega
        have ne_H_Z : gH ≠ gZ := by omega
        have ne_GB_Z : gGB ≠ gZ := by omega
        clear KS hgZ H_l GB_l
        clear GB
        have RS : ∀ r, Hid (mayR M zs 0 (batS a M xs (ys.take r)) = true) := fun r => Lib.hid (bat_may hx.out)
        have RL : ∀ r, Hid ((batS a M xs (ys.take r)).length ≤ m) := fun r => Lib.hid (by rw [← hhl]; exact batS_len _)
        have hVn : Vn ≤ 60000 := by have h1 := V.len; have h2 := batS_len (a := a) (M := M) ys (xs := xs); omega
        go_wp2
        go_loopw [24, 25] (fun s i wr => ∃ (r n1 c1 : Nat) (S : Option Addr), r ≤ q ∧ i = .int .i64 r ∧ s = .slice S n1 c1 ∧ Hid (IS .i64 0 wr S n1 c1 (batS a M xs (ys.take r))) ∧ Hid (IS .i64 0 wr VA Vn Vc (batS a M xs ys)) ∧ Hid (IS .i64 0 wr FA q Fc (batE a M xs ys)) ∧ Hid (Bk wr gH 27 #[.int .u32 (a : Int), .int .i64 p, .slice A n c, .int .i64 sh, .int .i64 wo, .int .i64 qu, .int .i64 tr]) ∧ Hid (Bk wr gZ 34 #[.int .i64 0, .int .u32 0, .bool false, .slice D5A D5n D5c, .slice FA q Fc]) ∧ Below w.heap.size w wr) (fun _ i _ => q - (intOf i).toNat)
        case atStart => exact ⟨0, m, d, B, Nat.zero_le _, rfl, rfl, Lib.hid (hs.lower (Nat.zero_le _)), Lib.hid V, Lib.hid (F.lower (Nat.zero_le _)), Lib.hid H, Lib.hid Z, K⟩
        case round =>
          clear V F H Z K hL h hs hy T U
          obtain ⟨r, n1, c1, S_, hk, rfl, rfl, HI_, HV_, HF_, HH_, HZ_, K⟩ := hrel
          have HI := HI_.out
          have V := HV_.out
          have F := HF_.out
          have H := HH_.out
          have Z := HZ_.out
          clear HI_ HV_ HF_ HH_ HZ_
          have hL := hL0.below K
          have h := h0.below K
          have hy := hy0.below K
          by_cases hlt : r < q
          · obtain ⟨y, hy1, hyb⟩ := hw.out.at_ (k := r) (by omega)
            obtain ⟨b, o, rfl, _, _⟩ := hy.get hlt
            have hfy : fiE a M y zs = 0 := by have := hfi.out _ (gi_mem (xs := ys) (j := r) (by omega)); rw [hy1] at this; exact this
            obtain ⟨e_, he_⟩ : ∃ e, reE (batS a M xs (ys.take r)) (ofO a M y) = e := ⟨_, rfl⟩
            have hz : Hid (gi (batE a M xs ys) r = e_) := Lib.hid (by rw [batE_at ys (by omega), hy1]; exact he_)
            have hso := Lib.hid (show someS a M zs (batS a M xs (ys.take r)) 3 y [] = (batS a M xs (ys.take (r + 1)), an0 e_) from by rw [some_release hfy, he_, batS_take (by omega), hy1]; rfl)
            have hn1 : n1 ≤ 60000 := by have h1 := (RL r).out; have h2 := HI.len; omega
            replace hy1 := Lib.hid hy1
            clear he_ hfy
            obtain ⟨b_, o_, rfl, _, _⟩ := F.get hlt
            go_wp2
            refine wp_region_held_drew (S := fun w' => Below w.heap.size w w' ∧ Bk w' gH 27 #[.int .u32 (a : Int), .int .i64 p, .slice A n c, .int .i64 sh, .int .i64 wo, .int .i64 qu, .int .i64 tr] ∧ Bk w' gZ 34 #[.int .i64 0, .int .u32 0, .bool false, .slice D5A D5n D5c, .slice (some ⟨b_, o_, none⟩) q Fc] ∧ True) (by kernel_rfl) ⟨K.drew, H.below ((Below.refl _ _).drew), Z.below ((Below.refl _ _).drew), trivial⟩ (fun hHeld => ?_)
            replace HI := HI.below ((Below.refl _ _).drew)
            replace V := V.below ((Below.refl _ _).drew)
            replace F := F.below ((Below.refl _ _).drew)
            generalize wr.drew = v19 at hHeld HI V F ⊢
            refine wpAnyH_take (i := 0) (oi := ⟨some 127, _, _, _, _, _⟩) (v := ?_) rfl (by kernel_rfl) (by kernel_rfl) (by kernel_rfl) (fun _ _ _ h => h) (Or.inl ⟨by rfl, ?_⟩) hHeld ?_
            rotate_left
            · intro ww hSw
              try dsimp only at hSw
              have H_0 := (hSw.2.1).at_ (v := .int .u32 (a : Int)) 0 rfl
              have H_1 := (hSw.2.1).at_ (v := .int .i64 p) 1 rfl
              have H_2 := (hSw.2.1).at_ (v := .slice A n c) 2 rfl
              have H_3 := (hSw.2.1).at_ (v := .int .i64 sh) 3 rfl
              have H_4 := (hSw.2.1).at_ (v := .int .i64 wo) 4 rfl
              have H_5 := (hSw.2.1).at_ (v := .int .i64 qu) 5 rfl
              have H_6 := (hSw.2.1).at_ (v := .int .i64 tr) 6 rfl
              have H_z := (hSw.2.1).lt
              have hce := (hy0.below hSw.1).here (j := r) hlt
              rw [hy1.out] at hce
              go_simp
              try with_reducible rfl
              try omega
            try simp only [Act.put, List.setIfInBounds_toArray, List.set_cons_zero, List.set_cons_succ]
            refine wpAnyH_take (i := 1) (oi := ⟨some 128, _, _, _, _, _⟩) (v := ?_) rfl (by kernel_rfl) (by kernel_rfl) (by kernel_rfl) (fun _ _ _ h => h) (Or.inl ⟨by rfl, ?_⟩) hHeld ?_
            rotate_left
            · intro ww hSw
              try dsimp only at hSw
              go_simp
              try with_reducible rfl
              try omega
            try simp only [Act.put, List.setIfInBounds_toArray, List.set_cons_zero, List.set_cons_succ]
            refine wpAnyH_take (i := 2) (oi := ⟨some 129, _, _, _, _, _⟩) (v := ?_) rfl (by kernel_rfl) (by kernel_rfl) (by kernel_rfl) (fun _ _ _ h => h) (Or.inl ⟨by rfl, ?_⟩) hHeld ?_
            rotate_left
            · intro ww hSw
              try dsimp only at hSw
              go_simp
              try with_reducible rfl
              try omega
            try simp only [Act.put, List.setIfInBounds_toArray, List.set_cons_zero, List.set_cons_succ]
            refine wpAnyH_take (i := 3) (oi := ⟨some 130, _, _, _, _, _⟩) (v := ?_) rfl (by kernel_rfl) (by kernel_rfl) (by kernel_rfl) (fun _ _ _ h => h) (Or.inl ⟨by rfl, ?_⟩) hHeld ?_
            rotate_left
            · intro ww hSw
              try dsimp only at hSw
              go_simp
              try with_reducible rfl
              try omega
            try simp only [Act.put, List.setIfInBounds_toArray, List.set_cons_zero, List.set_cons_succ]
            refine wpAnyH_take (i := 4) (oi := ⟨some 131, _, _, _, _, _⟩) (v := ?_) rfl (by kernel_rfl) (by kernel_rfl) (by kernel_rfl) (fun _ _ _ h => h) (Or.inl ⟨by rfl, ?_⟩) hHeld ?_
            rotate_left
            · intro ww hSw
              try dsimp only at hSw
              go_simp
              try with_reducible rfl
              try omega
            try simp only [Act.put, List.setIfInBounds_toArray, List.set_cons_zero, List.set_cons_succ]
            refine wpAnyH_take (i := 5) (oi := ⟨some 132, _, _, _, _, _⟩) (v := ?_) rfl (by kernel_rfl) (by kernel_rfl) (by kernel_rfl) (fun _ _ _ h => h) (Or.inl ⟨by rfl, ?_⟩) hHeld ?_
            rotate_left
            · intro ww hSw
              try dsimp only at hSw
              have H_0 := (hSw.2.1).at_ (v := .int .u32 (a : Int)) 0 rfl
              have H_1 := (hSw.2.1).at_ (v := .int .i64 p) 1 rfl
              have H_2 := (hSw.2.1).at_ (v := .slice A n c) 2 rfl
              have H_3 := (hSw.2.1).at_ (v := .int .i64 sh) 3 rfl
              have H_4 := (hSw.2.1).at_ (v := .int .i64 wo) 4 rfl
              have H_5 := (hSw.2.1).at_ (v := .int .i64 qu) 5 rfl
              have H_6 := (hSw.2.1).at_ (v := .int .i64 tr) 6 rfl
              have H_z := (hSw.2.1).lt
              have hce := (hy0.below hSw.1).here (j := r) hlt
              rw [hy1.out] at hce
              go_simp
              try with_reducible rfl
              try omega
            try simp only [Act.put, List.setIfInBounds_toArray, List.set_cons_zero, List.set_cons_succ]
            refine wpAnyH_take (i := 6) (oi := ⟨some 133, _, _, _, _, _⟩) (v := ?_) rfl (by kernel_rfl) (by kernel_rfl) (by kernel_rfl) (fun _ _ _ h => h) (Or.inl ⟨by rfl, ?_⟩) hHeld ?_
            rotate_left
            · intro ww hSw
              try dsimp only at hSw
              go_simp
              try with_reducible rfl
              try omega
            try simp only [Act.put, List.setIfInBounds_toArray, List.set_cons_zero, List.set_cons_succ]
            refine wpAnyH_ready (rs := [7, 11]) (by kernel_rfl) (by simp) ?_
            refine AllReadyH.cons (o := ⟨some 134, _, _, _, _, _⟩) rfl (fun K0 hK => ?_) ?_
            · go_simp
              refine (some_at (k := 3) (X := y) (xi := (y : Int)) (ys := []) (sh := sh) (wo := wo) (qu := qu) (tr := tr) (hL0.below hHeld.1) ha hM (h0.below hHeld.1) hn HI hn1 (RS r).out rfl hyb (IS.none_ .u32 0 _) (by omega) (fun y hy => by cases hy) hso.out).mono ?_
              have H_l := (hHeld.2.1).lt
              have Z_l := (hHeld.2.2.1).lt
              rintro e v20 ⟨S2A, S2n, S2c, DA, Dn, Dc, EA, En, Ec, rfl, S2, hav, D, E, K'⟩
              replace D := D.lower (Nat.zero_le _)
              replace E := E.lower (Nat.zero_le _)
              clear hav
              refine hK.out _ _ ⟨Below.then_ hHeld.1 K', hHeld.2.1.below K', hHeld.2.2.1.below K', trivial⟩ (fun hHeld' => ?_)
              replace HI := HI.below K'
              replace V := V.below K'
              replace F := F.below K'
              clear hHeld K' hK K0
              clear H_l Z_l
              have hHeld := hHeld'
              clear hHeld'
              try simp only [Act.put, List.setIfInBounds_toArray, List.set_cons_zero, List.set_cons_succ]
              refine wpAnyH_take (i := 8) (oi := ⟨some 126, _, _, _, _, _⟩) (v := ?_) rfl (by kernel_rfl) (by kernel_rfl) (by kernel_rfl) (fun _ _ _ h => h) (Or.inl ⟨by rfl, ?_⟩) hHeld ?_
              rotate_left
              · intro ww hSw
                try dsimp only at hSw
                go_simp
                try with_reducible rfl
                try omega
              try simp only [Act.put, List.setIfInBounds_toArray, List.set_cons_zero, List.set_cons_succ]
              refine wpAnyH_take (i := 9) (oi := ⟨some 135, _, _, _, _, _⟩) (v := ?_) rfl (by kernel_rfl) (by kernel_rfl) (by kernel_rfl) (fun _ _ _ h => h) (Or.inl ⟨by rfl, ?_⟩) hHeld ?_
              rotate_left
              · intro ww hSw
                try dsimp only at hSw
                go_simp
                try with_reducible rfl
                try omega
              try simp only [Act.put, List.setIfInBounds_toArray, List.set_cons_zero, List.set_cons_succ]
              refine wpAnyH_take (i := 10) (oi := ⟨some 136, _, _, _, _, _⟩) (v := ?_) rfl (by kernel_rfl) (by kernel_rfl) (by kernel_rfl) (fun _ _ _ h => h) (Or.inl ⟨by rfl, ?_⟩) hHeld ?_
              rotate_left
              · intro ww hSw
                try dsimp only at hSw
                go_simp
                try with_reducible rfl
                try omega
              try simp only [Act.put, List.setIfInBounds_toArray, List.set_cons_zero, List.set_cons_succ]
              refine wpAnyH_ready (rs := [11]) (by kernel_rfl) (by simp) ?_
              refine AllReadyH.cons (o := ⟨some 27, _, _, _, _, _⟩) rfl (fun K0 hK => ?_) AllReadyH.nil
              have K' := below_alloc v20 (.cells #[.int .i64 0, .int .u32 0, .bool false, .slice none 0 0, .slice none 0 0] 34)
              have V_ := Bk.new v20 #[.int .i64 0, .int .u32 0, .bool false, .slice none 0 0, .slice none 0 0] 34
              have KS := hHeld.1.size
              have V__b : w.heap.size ≤ v20.heap.size := by omega
              have ne_H_V_ : gH ≠ v20.heap.size := by have := (hHeld.2.1).lt; omega
              have ne_Z_V_ : gZ ≠ v20.heap.size := by have := (hHeld.2.2.1).lt; omega
              have HI_V_ := HI.av_old (Nat.le_refl v20.heap.size)
              have V_V_ := V.av_old (Nat.le_refl v20.heap.size)
              have F_V_ := F.av_old (Nat.le_refl v20.heap.size)
              have S2_V_ := S2.av_old (Nat.le_refl v20.heap.size)
              have D_V_ := D.av_old (Nat.le_refl v20.heap.size)
              have E_V_ := E.av_old (Nat.le_refl v20.heap.size)
              clear KS
              go_simp
              refine hK.out _ _ ⟨Below.then_ hHeld.1 K', hHeld.2.1.below K', hHeld.2.2.1.below K', trivial⟩ (fun hHeld' => ?_)
              replace HI := HI.below K'
              replace V := V.below K'
              replace F := F.below K'
              replace S2 := S2.below K'
              replace D := D.below K'
              replace E := E.below K'
              clear hHeld hK K0 K'
              have hHeld := hHeld'
              clear hHeld'
              generalize v20.alloc (.cells #[.int .i64 0, .int .u32 0, .bool false, .slice none 0 0, .slice none 0 0] 34) = v21 at hHeld V_ HI V F S2 D E ⊢
              generalize v20.heap.size = gV_ at V_ V__b ne_H_V_ ne_Z_V_ HI_V_ V_V_ F_V_ S2_V_ D_V_ E_V_ ⊢
              try simp only [Act.put, List.setIfInBounds_toArray, List.set_cons_zero, List.set_cons_succ]
              refine wpAnyH_take (i := 12) (oi := ⟨some 26, _, _, _, _, _⟩) (v := ?_) rfl (by kernel_rfl) (by kernel_rfl) (by kernel_rfl) (fun _ _ _ h => h) (Or.inl ⟨by rfl, ?_⟩) hHeld ?_
              rotate_left
              · intro ww hSw
                try dsimp only at hSw
                go_simp
                try with_reducible rfl
                try omega
              try simp only [Act.put, List.setIfInBounds_toArray, List.set_cons_zero, List.set_cons_succ]
              refine wpAnyH_ready (rs := [13]) (by kernel_rfl) (by simp) ?_
              refine AllReadyH.cons (o := ⟨none, _, _, _, _, _⟩) rfl (fun K0 hK => ?_) AllReadyH.nil
              rw [if_pos (by rfl)]
              refine wp_store_row 34 (.tmp 27) (.tmp 136) rfl gV_ _ rfl (show _ = Value.agg #[.int .i64 e_, .int .u32 0, .bool false, .slice DA Dn Dc, .slice EA En Ec] from rfl) _ _ V_ an_sz rfl (by simp [Value.oneCell']) ?_
              replace V_ := Bk.row V_ #[.int .i64 e_, .int .u32 0, .bool false, .slice DA Dn Dc, .slice EA En Ec]
              refine hK.out _ _ ⟨below_setRow hHeld.1 V__b _, hHeld.2.1.row_far ne_H_V_ _, hHeld.2.2.1.row_far ne_Z_V_ _, trivial⟩ (fun hHeld' => ?_)
              replace HI := HI.row_av HI_V_ #[.int .i64 e_, .int .u32 0, .bool false, .slice DA Dn Dc, .slice EA En Ec]
              replace V := V.row_av V_V_ #[.int .i64 e_, .int .u32 0, .bool false, .slice DA Dn Dc, .slice EA En Ec]
              replace F := F.row_av F_V_ #[.int .i64 e_, .int .u32 0, .bool false, .slice DA Dn Dc, .slice EA En Ec]
              replace S2 := S2.row_av S2_V_ #[.int .i64 e_, .int .u32 0, .bool false, .slice DA Dn Dc, .slice EA En Ec]
              replace D := D.row_av D_V_ #[.int .i64 e_, .int .u32 0, .bool false, .slice DA Dn Dc, .slice EA En Ec]
              replace E := E.row_av E_V_ #[.int .i64 e_, .int .u32 0, .bool false, .slice DA Dn Dc, .slice EA En Ec]
              clear hHeld hK K0
              have hHeld := hHeld'
              clear hHeld'
              generalize v21.setRow gV_ #[.int .i64 e_, .int .u32 0, .bool false, .slice DA Dn Dc, .slice EA En Ec] = v22 at hHeld  HI V F S2 D E V_ ⊢
              try simp only [Act.put]
              refine wpAnyH_done (by kernel_rfl) ?_ _
              replace K := hHeld.1
              replace H := hHeld.2.1
              replace Z := hHeld.2.2.1
              clear hHeld
              replace hL := hL0.below K
              replace h := h0.below K
              replace hy := hy0.below K
              go_wp2
              have eg : decide ((q : Int) ≤ (r : Int)) = false := by simp; omega
              have en : (e_ != e_) = false := by simp
              refine wp_region_held_drew (S := fun w' => Below v22.heap.size v22 w') (by kernel_rfl) (Below.refl _ _).drew (fun hHeld => ?_)
              generalize v22.drew = w30 at hHeld ⊢
              refine wpAnyH_take (i := 0) (oi := ⟨some 137, _, _, _, _, _⟩) (v := ?_) rfl (by kernel_rfl) (by kernel_rfl) (by kernel_rfl) (fun _ _ _ h => h) (Or.inl ⟨by rfl, ?_⟩) hHeld ?_
              rotate_left
              · intro ww hSw
                try dsimp only at hSw
                go_simp
                try with_reducible rfl
                try omega
              try simp only [Act.put, List.setIfInBounds_toArray, List.set_cons_zero, List.set_cons_succ]
              refine wpAnyH_take (i := 1) (oi := ⟨some 138, _, _, _, _, _⟩) (v := ?_) rfl (by kernel_rfl) (by kernel_rfl) (by kernel_rfl) (fun _ _ _ h => h) (Or.inl ⟨by rfl, ?_⟩) hHeld ?_
              rotate_left
              · intro ww hSw
                try dsimp only at hSw
                go_simp
                try with_reducible rfl
                try omega
              try simp only [Act.put, List.setIfInBounds_toArray, List.set_cons_zero, List.set_cons_succ]
              refine wpAnyH_take (i := 2) (oi := ⟨some 139, _, _, _, _, _⟩) (v := ?_) rfl (by kernel_rfl) (by kernel_rfl) (by kernel_rfl) (fun _ _ _ h => h) (Or.inl ⟨by rfl, ?_⟩) hHeld ?_
              rotate_left
              · intro ww hSw
                try dsimp only at hSw
                have Z_0 := (Z.below hSw).at_ (v := .int .i64 0) 0 rfl
                have Z_1 := (Z.below hSw).at_ (v := .int .u32 0) 1 rfl
                have Z_2 := (Z.below hSw).at_ (v := .bool false) 2 rfl
                have Z_3 := (Z.below hSw).at_ (v := .slice D5A D5n D5c) 3 rfl
                have Z_4 := (Z.below hSw).at_ (v := .slice (some ⟨b_, o_, none⟩) q Fc) 4 rfl
                have V__0 := (V_.below hSw).at_ (v := .int .i64 e_) 0 rfl
                have V__1 := (V_.below hSw).at_ (v := .int .u32 0) 1 rfl
                have V__2 := (V_.below hSw).at_ (v := .bool false) 2 rfl
                have V__3 := (V_.below hSw).at_ (v := .slice DA Dn Dc) 3 rfl
                have V__4 := (V_.below hSw).at_ (v := .slice EA En Ec) 4 rfl
                have hze := (F.below hSw).here (j := r) hlt
                rw [hz.out] at hze
                go_simp
                try with_reducible rfl
                try omega
              try simp only [Act.put, List.setIfInBounds_toArray, List.set_cons_zero, List.set_cons_succ]
              refine wpAnyH_take (i := 3) (oi := ⟨some 140, _, _, _, _, _⟩) (v := ?_) rfl (by kernel_rfl) (by kernel_rfl) (by kernel_rfl) (fun _ _ _ h => h) (Or.inl ⟨by rfl, ?_⟩) hHeld ?_
              rotate_left
              · intro ww hSw
                try dsimp only at hSw
                go_simp
                try with_reducible rfl
                try omega
              try simp only [Act.put, List.setIfInBounds_toArray, List.set_cons_zero, List.set_cons_succ]
              refine wpAnyH_take (i := 4) (oi := ⟨some 141, _, _, _, _, _⟩) (v := .bool false) rfl (by kernel_rfl) (by kernel_rfl) (by kernel_rfl) (fun _ _ _ h => h) (Or.inl ⟨by rfl, ?_⟩) hHeld ?_
              · intro ww hSw
                try dsimp only at hSw
                go_simp
                try with_reducible rfl
                try omega
              try simp only [Act.put, List.setIfInBounds_toArray, List.set_cons_zero, List.set_cons_succ]
              refine wpAnyH_take (i := 5) (oi := ⟨some 142, _, _, _, _, _⟩) (v := .bool false) rfl (by kernel_rfl) (by kernel_rfl) (by kernel_rfl) (fun _ _ _ h => h) (Or.inl ⟨by rfl, ?_⟩) hHeld ?_
              · intro ww hSw
                try dsimp only at hSw
                go_simp
                try with_reducible rfl
                try omega
              try simp only [Act.put, List.setIfInBounds_toArray, List.set_cons_zero, List.set_cons_succ]
              refine wpAnyH_take (i := 6) (oi := ⟨some 143, _, _, _, _, _⟩) (v := ?_) rfl (by kernel_rfl) (by kernel_rfl) (by kernel_rfl) (fun _ _ _ h => h) (Or.inl ⟨by rfl, ?_⟩) hHeld ?_
              rotate_left
              · intro ww hSw
                try dsimp only at hSw
                go_simp
                try with_reducible rfl
                try omega
              try simp only [Act.put, List.setIfInBounds_toArray, List.set_cons_zero, List.set_cons_succ]
              refine wpAnyH_take (i := 7) (oi := ⟨some 144, _, _, _, _, _⟩) (v := ?_) rfl (by kernel_rfl) (by kernel_rfl) (by kernel_rfl) (fun _ _ _ h => h) (Or.inl ⟨by rfl, ?_⟩) hHeld ?_
              rotate_left
              · intro ww hSw
                try dsimp only at hSw
                have Z_0 := (Z.below hSw).at_ (v := .int .i64 0) 0 rfl
                have Z_1 := (Z.below hSw).at_ (v := .int .u32 0) 1 rfl
                have Z_2 := (Z.below hSw).at_ (v := .bool false) 2 rfl
                have Z_3 := (Z.below hSw).at_ (v := .slice D5A D5n D5c) 3 rfl
                have Z_4 := (Z.below hSw).at_ (v := .slice (some ⟨b_, o_, none⟩) q Fc) 4 rfl
                have V__0 := (V_.below hSw).at_ (v := .int .i64 e_) 0 rfl
                have V__1 := (V_.below hSw).at_ (v := .int .u32 0) 1 rfl
                have V__2 := (V_.below hSw).at_ (v := .bool false) 2 rfl
                have V__3 := (V_.below hSw).at_ (v := .slice DA Dn Dc) 3 rfl
                have V__4 := (V_.below hSw).at_ (v := .slice EA En Ec) 4 rfl
                have hze := (F.below hSw).here (j := r) hlt
                rw [hz.out] at hze
                go_simp
                try with_reducible rfl
                try omega
              try simp only [Act.put, List.setIfInBounds_toArray, List.set_cons_zero, List.set_cons_succ]
              refine wpAnyH_take (i := 8) (oi := ⟨some 145, _, _, _, _, _⟩) (v := ?_) rfl (by kernel_rfl) (by kernel_rfl) (by kernel_rfl) (fun _ _ _ h => h) (Or.inl ⟨by rfl, ?_⟩) hHeld ?_
              rotate_left
              · intro ww hSw
                try dsimp only at hSw
                go_simp
                try with_reducible rfl
                try omega
              try simp only [Act.put, List.setIfInBounds_toArray, List.set_cons_zero, List.set_cons_succ]
              refine wpAnyH_take (i := 9) (oi := ⟨some 146, _, _, _, _, _⟩) (v := ?_) rfl (by kernel_rfl) (by kernel_rfl) (by kernel_rfl) (fun _ _ _ h => h) (Or.inl ⟨by rfl, ?_⟩) hHeld ?_
              rotate_left
              · intro ww hSw
                try dsimp only at hSw
                go_simp
                try with_reducible rfl
                try omega
              try simp only [Act.put, List.setIfInBounds_toArray, List.set_cons_zero, List.set_cons_succ]
              refine wpAnyH_take (i := 10) (oi := ⟨some 147, _, _, _, _, _⟩) (v := ?_) rfl (by kernel_rfl) (by kernel_rfl) (by kernel_rfl) (fun _ _ _ h => h) (Or.inl ⟨by rfl, ?_⟩) hHeld ?_
              rotate_left
              · intro ww hSw
                try dsimp only at hSw
                have Z_0 := (Z.below hSw).at_ (v := .int .i64 0) 0 rfl
                have Z_1 := (Z.below hSw).at_ (v := .int .u32 0) 1 rfl
                have Z_2 := (Z.below hSw).at_ (v := .bool false) 2 rfl
                have Z_3 := (Z.below hSw).at_ (v := .slice D5A D5n D5c) 3 rfl
                have Z_4 := (Z.below hSw).at_ (v := .slice (some ⟨b_, o_, none⟩) q Fc) 4 rfl
                have V__0 := (V_.below hSw).at_ (v := .int .i64 e_) 0 rfl
                have V__1 := (V_.below hSw).at_ (v := .int .u32 0) 1 rfl
                have V__2 := (V_.below hSw).at_ (v := .bool false) 2 rfl
                have V__3 := (V_.below hSw).at_ (v := .slice DA Dn Dc) 3 rfl
                have V__4 := (V_.below hSw).at_ (v := .slice EA En Ec) 4 rfl
                have hze := (F.below hSw).here (j := r) hlt
                rw [hz.out] at hze
                go_simp
                try with_reducible rfl
                try omega
              try simp only [Act.put, List.setIfInBounds_toArray, List.set_cons_zero, List.set_cons_succ]
              refine wpAnyH_take (i := 11) (oi := ⟨some 148, _, _, _, _, _⟩) (v := ?_) rfl (by kernel_rfl) (by kernel_rfl) (by kernel_rfl) (fun _ _ _ h => h) (Or.inl ⟨by rfl, ?_⟩) hHeld ?_
              rotate_left
              · intro ww hSw
                try dsimp only at hSw
                go_simp
                try with_reducible rfl
                try omega
              try simp only [Act.put, List.setIfInBounds_toArray, List.set_cons_zero, List.set_cons_succ]
              refine wpAnyH_take (i := 12) (oi := ⟨some 149, _, _, _, _, _⟩) (v := ?_) rfl (by kernel_rfl) (by kernel_rfl) (by kernel_rfl) (fun _ _ _ h => h) (Or.inl ⟨by rfl, ?_⟩) hHeld ?_
              rotate_left
              · intro ww hSw
                try dsimp only at hSw
                have Z_0 := (Z.below hSw).at_ (v := .int .i64 0) 0 rfl
                have Z_1 := (Z.below hSw).at_ (v := .int .u32 0) 1 rfl
                have Z_2 := (Z.below hSw).at_ (v := .bool false) 2 rfl
                have Z_3 := (Z.below hSw).at_ (v := .slice D5A D5n D5c) 3 rfl
                have Z_4 := (Z.below hSw).at_ (v := .slice (some ⟨b_, o_, none⟩) q Fc) 4 rfl
                have V__0 := (V_.below hSw).at_ (v := .int .i64 e_) 0 rfl
                have V__1 := (V_.below hSw).at_ (v := .int .u32 0) 1 rfl
                have V__2 := (V_.below hSw).at_ (v := .bool false) 2 rfl
                have V__3 := (V_.below hSw).at_ (v := .slice DA Dn Dc) 3 rfl
                have V__4 := (V_.below hSw).at_ (v := .slice EA En Ec) 4 rfl
                have hze := (F.below hSw).here (j := r) hlt
                rw [hz.out] at hze
                go_simp
                try with_reducible rfl
                try omega
              try simp only [Act.put, List.setIfInBounds_toArray, List.set_cons_zero, List.set_cons_succ]
              refine wpAnyH_take (i := 13) (oi := ⟨some 150, _, _, _, _, _⟩) (v := .bool false) rfl (by kernel_rfl) (by kernel_rfl) (by kernel_rfl) (fun _ _ _ h => h) (Or.inl ⟨by rfl, ?_⟩) hHeld ?_
              · intro ww hSw
                try dsimp only at hSw
                go_simp
                try with_reducible rfl
                try omega
              try simp only [Act.put, List.setIfInBounds_toArray, List.set_cons_zero, List.set_cons_succ]
              refine wpAnyH_take (i := 14) (oi := ⟨some 151, _, _, _, _, _⟩) (v := .bool false) rfl (by kernel_rfl) (by kernel_rfl) (by kernel_rfl) (fun _ _ _ h => h) (Or.inl ⟨by rfl, ?_⟩) hHeld ?_
              · intro ww hSw
                try dsimp only at hSw
                go_simp
                try with_reducible rfl
                try omega
              try simp only [Act.put, List.setIfInBounds_toArray, List.set_cons_zero, List.set_cons_succ]
              refine wpAnyH_done (by kernel_rfl) ?_ _
              replace H := H.below hHeld
              replace Z := Z.below hHeld
              replace V_ := V_.below hHeld
              replace hL := hL.below hHeld
              replace h := h.below hHeld
              replace hy := hy.below hHeld
              replace HI := HI.below hHeld
              replace V := V.below hHeld
              replace F := F.below hHeld
              replace S2 := S2.below hHeld
              replace D := D.below hHeld
              replace E := E.below hHeld
              replace K := Below.then_ K hHeld
              clear hHeld
              go_wp2
              go_roundw
              case rel => exact ⟨r + 1, _, _, _, by omega, by go_num, rfl, Lib.hid S2, Lib.hid V, Lib.hid F, Lib.hid H, Lib.hid Z, K⟩
              case measure => simp [intOf]; omega
            refine AllReadyH.cons (o := ⟨some 27, _, _, _, _, _⟩) rfl (fun K0 hK => ?_) AllReadyH.nil
            have K' := below_alloc v19 (.cells #[.int .i64 0, .int .u32 0, .bool false, .slice none 0 0, .slice none 0 0] 34)
            have V_ := Bk.new v19 #[.int .i64 0, .int .u32 0, .bool false, .slice none 0 0, .slice none 0 0] 34
            have KS := hHeld.1.size
            have V__b : w.heap.size ≤ v19.heap.size := by omega
            have ne_H_V_ : gH ≠ v19.heap.size := by have := (hHeld.2.1).lt; omega
            have ne_Z_V_ : gZ ≠ v19.heap.size := by have := (hHeld.2.2.1).lt; omega
            have HI_V_ := HI.av_old (Nat.le_refl v19.heap.size)
            have V_V_ := V.av_old (Nat.le_refl v19.heap.size)
            have F_V_ := F.av_old (Nat.le_refl v19.heap.size)
            clear KS
            go_simp
            refine hK.out _ _ ⟨Below.then_ hHeld.1 K', hHeld.2.1.below K', hHeld.2.2.1.below K', trivial⟩ (fun hHeld' => ?_)
            replace HI := HI.below K'
            replace V := V.below K'
            replace F := F.below K'
            clear hHeld hK K0 K'
            have hHeld := hHeld'
            clear hHeld'
            generalize v19.alloc (.cells #[.int .i64 0, .int .u32 0, .bool false, .slice none 0 0, .slice none 0 0] 34) = v20 at hHeld V_ HI V F ⊢
            generalize v19.heap.size = gV_ at V_ V__b ne_H_V_ ne_Z_V_ HI_V_ V_V_ F_V_ ⊢
            try simp only [Act.put, List.setIfInBounds_toArray, List.set_cons_zero, List.set_cons_succ]
            refine wpAnyH_ready (rs := [7]) (by kernel_rfl) (by simp) ?_
            refine AllReadyH.cons (o := ⟨some 134, _, _, _, _, _⟩) rfl (fun K0 hK => ?_) AllReadyH.nil
            go_simp
            refine (some_at (k := 3) (X := y) (xi := (y : Int)) (ys := []) (sh := sh) (wo := wo) (qu := qu) (tr := tr) (hL0.below hHeld.1) ha hM (h0.below hHeld.1) hn HI hn1 (RS r).out rfl hyb (IS.none_ .u32 0 _) (by omega) (fun y hy => by cases hy) hso.out).mono ?_
            have H_l := (hHeld.2.1).lt
            have Z_l := (hHeld.2.2.1).lt
            have V__l := V_.lt
            rintro e v21 ⟨S2A, S2n, S2c, DA, Dn, Dc, EA, En, Ec, rfl, S2, hav, D, E, K'⟩
            have S2_V_ := hav gV_ V__l HI_V_
            have D_V_ := D.av V__l
            have E_V_ := E.av V__l
            replace D := D.lower (Nat.zero_le _)
            replace E := E.lower (Nat.zero_le _)
            clear hav
            refine hK.out _ _ ⟨Below.then_ hHeld.1 K', hHeld.2.1.below K', hHeld.2.2.1.below K', trivial⟩ (fun hHeld' => ?_)
            replace HI := HI.below K'
            replace V := V.below K'
            replace F := F.below K'
            replace V_ := V_.below K'
            clear hHeld K' hK K0
            clear H_l Z_l V__l
            have hHeld := hHeld'
            clear hHeld'
            try simp only [Act.put, List.setIfInBounds_toArray, List.set_cons_zero, List.set_cons_succ]
            refine wpAnyH_take (i := 8) (oi := ⟨some 126, _, _, _, _, _⟩) (v := ?_) rfl (by kernel_rfl) (by kernel_rfl) (by kernel_rfl) (fun _ _ _ h => h) (Or.inl ⟨by rfl, ?_⟩) hHeld ?_
            rotate_left
            · intro ww hSw
              try dsimp only at hSw
              go_simp
              try with_reducible rfl
              try omega
            try simp only [Act.put, List.setIfInBounds_toArray, List.set_cons_zero, List.set_cons_succ]
            refine wpAnyH_take (i := 9) (oi := ⟨some 135, _, _, _, _, _⟩) (v := ?_) rfl (by kernel_rfl) (by kernel_rfl) (by kernel_rfl) (fun _ _ _ h => h) (Or.inl ⟨by rfl, ?_⟩) hHeld ?_
            rotate_left
            · intro ww hSw
              try dsimp only at hSw
              go_simp
              try with_reducible rfl
              try omega
            try simp only [Act.put, List.setIfInBounds_toArray, List.set_cons_zero, List.set_cons_succ]
            refine wpAnyH_take (i := 10) (oi := ⟨some 136, _, _, _, _, _⟩) (v := ?_) rfl (by kernel_rfl) (by kernel_rfl) (by kernel_rfl) (fun _ _ _ h => h) (Or.inl ⟨by rfl, ?_⟩) hHeld ?_
            rotate_left
            · intro ww hSw
              try dsimp only at hSw
              go_simp
              try with_reducible rfl
              try omega
            try simp only [Act.put, List.setIfInBounds_toArray, List.set_cons_zero, List.set_cons_succ]
            refine wpAnyH_take (i := 12) (oi := ⟨some 26, _, _, _, _, _⟩) (v := ?_) rfl (by kernel_rfl) (by kernel_rfl) (by kernel_rfl) (fun _ _ _ h => h) (Or.inl ⟨by rfl, ?_⟩) hHeld ?_
            rotate_left
            · intro ww hSw
              try dsimp only at hSw
              go_simp
              try with_reducible rfl
              try omega
            try simp only [Act.put, List.setIfInBounds_toArray, List.set_cons_zero, List.set_cons_succ]
            refine wpAnyH_ready (rs := [13]) (by kernel_rfl) (by simp) ?_
            refine AllReadyH.cons (o := ⟨none, _, _, _, _, _⟩) rfl (fun K0 hK => ?_) AllReadyH.nil
            rw [if_pos (by rfl)]
            refine wp_store_row 34 (.tmp 27) (.tmp 136) rfl gV_ _ rfl (show _ = Value.agg #[.int .i64 e_, .int .u32 0, .bool false, .slice DA Dn Dc, .slice EA En Ec] from rfl) _ _ V_ an_sz rfl (by simp [Value.oneCell']) ?_
            replace V_ := Bk.row V_ #[.int .i64 e_, .int .u32 0, .bool false, .slice DA Dn Dc, .slice EA En Ec]
            refine hK.out _ _ ⟨below_setRow hHeld.1 V__b _, hHeld.2.1.row_far ne_H_V_ _, hHeld.2.2.1.row_far ne_Z_V_ _, trivial⟩ (fun hHeld' => ?_)
            replace HI := HI.row_av HI_V_ #[.int .i64 e_, .int .u32 0, .bool false, .slice DA Dn Dc, .slice EA En Ec]
            replace V := V.row_av V_V_ #[.int .i64 e_, .int .u32 0, .bool false, .slice DA Dn Dc, .slice EA En Ec]
            replace F := F.row_av F_V_ #[.int .i64 e_, .int .u32 0, .bool false, .slice DA Dn Dc, .slice EA En Ec]
            replace S2 := S2.row_av S2_V_ #[.int .i64 e_, .int .u32 0, .bool false, .slice DA Dn Dc, .slice EA En Ec]
            replace D := D.row_av D_V_ #[.int .i64 e_, .int .u32 0, .bool false, .slice DA Dn Dc, .slice EA En Ec]
            replace E := E.row_av E_V_ #[.int .i64 e_, .int .u32 0, .bool false, .slice DA Dn Dc, .slice EA En Ec]
            clear hHeld hK K0
            have hHeld := hHeld'
            clear hHeld'
            generalize v21.setRow gV_ #[.int .i64 e_, .int .u32 0, .bool false, .slice DA Dn Dc, .slice EA En Ec] = v22 at hHeld  HI V F V_ S2 D E ⊢
            try simp only [Act.put]
            refine wpAnyH_done (by kernel_rfl) ?_ _
            replace K := hHeld.1
            replace H := hHeld.2.1
            replace Z := hHeld.2.2.1
            clear hHeld
            replace hL := hL0.below K
            replace h := h0.below K
            replace hy := hy0.below K
            go_wp2
            have eg : decide ((q : Int) ≤ (r : Int)) = false := by simp; omega
            have en : (e_ != e_) = false := by simp
            refine wp_region_held_drew (S := fun w' => Below v22.heap.size v22 w') (by kernel_rfl) (Below.refl _ _).drew (fun hHeld => ?_)
            generalize v22.drew = w30 at hHeld ⊢
            refine wpAnyH_take (i := 0) (oi := ⟨some 137, _, _, _, _, _⟩) (v := ?_) rfl (by kernel_rfl) (by kernel_rfl) (by kernel_rfl) (fun _ _ _ h => h) (Or.inl ⟨by rfl, ?_⟩) hHeld ?_
            rotate_left
            · intro ww hSw
              try dsimp only at hSw
              go_simp
              try with_reducible rfl
              try omega
            try simp only [Act.put, List.setIfInBounds_toArray, List.set_cons_zero, List.set_cons_succ]
            refine wpAnyH_take (i := 1) (oi := ⟨some 138, _, _, _, _, _⟩) (v := ?_) rfl (by kernel_rfl) (by kernel_rfl) (by kernel_rfl) (fun _ _ _ h => h) (Or.inl ⟨by rfl, ?_⟩) hHeld ?_
            rotate_left
            · intro ww hSw
              try dsimp only at hSw
              go_simp
              try with_reducible rfl
              try omega
            try simp only [Act.put, List.setIfInBounds_toArray, List.set_cons_zero, List.set_cons_succ]
            refine wpAnyH_take (i := 2) (oi := ⟨some 139, _, _, _, _, _⟩) (v := ?_) rfl (by kernel_rfl) (by kernel_rfl) (by kernel_rfl) (fun _ _ _ h => h) (Or.inl ⟨by rfl, ?_⟩) hHeld ?_
            rotate_left
            · intro ww hSw
              try dsimp only at hSw
              have Z_0 := (Z.below hSw).at_ (v := .int .i64 0) 0 rfl
              have Z_1 := (Z.below hSw).at_ (v := .int .u32 0) 1 rfl
              have Z_2 := (Z.below hSw).at_ (v := .bool false) 2 rfl
              have Z_3 := (Z.below hSw).at_ (v := .slice D5A D5n D5c) 3 rfl
              have Z_4 := (Z.below hSw).at_ (v := .slice (some ⟨b_, o_, none⟩) q Fc) 4 rfl
              have V__0 := (V_.below hSw).at_ (v := .int .i64 e_) 0 rfl
              have V__1 := (V_.below hSw).at_ (v := .int .u32 0) 1 rfl
              have V__2 := (V_.below hSw).at_ (v := .bool false) 2 rfl
              have V__3 := (V_.below hSw).at_ (v := .slice DA Dn Dc) 3 rfl
              have V__4 := (V_.below hSw).at_ (v := .slice EA En Ec) 4 rfl
              have hze := (F.below hSw).here (j := r) hlt
              rw [hz.out] at hze
              go_simp
              try with_reducible rfl
              try omega
            try simp only [Act.put, List.setIfInBounds_toArray, List.set_cons_zero, List.set_cons_succ]
            refine wpAnyH_take (i := 3) (oi := ⟨some 140, _, _, _, _, _⟩) (v := ?_) rfl (by kernel_rfl) (by kernel_rfl) (by kernel_rfl) (fun _ _ _ h => h) (Or.inl ⟨by rfl, ?_⟩) hHeld ?_
            rotate_left
            · intro ww hSw
              try dsimp only at hSw
              go_simp
              try with_reducible rfl
              try omega
            try simp only [Act.put, List.setIfInBounds_toArray, List.set_cons_zero, List.set_cons_succ]
            refine wpAnyH_take (i := 4) (oi := ⟨some 141, _, _, _, _, _⟩) (v := .bool false) rfl (by kernel_rfl) (by kernel_rfl) (by kernel_rfl) (fun _ _ _ h => h) (Or.inl ⟨by rfl, ?_⟩) hHeld ?_
            · intro ww hSw
              try dsimp only at hSw
              go_simp
              try with_reducible rfl
              try omega
            try simp only [Act.put, List.setIfInBounds_toArray, List.set_cons_zero, List.set_cons_succ]
            refine wpAnyH_take (i := 5) (oi := ⟨some 142, _, _, _, _, _⟩) (v := .bool false) rfl (by kernel_rfl) (by kernel_rfl) (by kernel_rfl) (fun _ _ _ h => h) (Or.inl ⟨by rfl, ?_⟩) hHeld ?_
            · intro ww hSw
              try dsimp only at hSw
              go_simp
              try with_reducible rfl
              try omega
            try simp only [Act.put, List.setIfInBounds_toArray, List.set_cons_zero, List.set_cons_succ]
            refine wpAnyH_take (i := 6) (oi := ⟨some 143, _, _, _, _, _⟩) (v := ?_) rfl (by kernel_rfl) (by kernel_rfl) (by kernel_rfl) (fun _ _ _ h => h) (Or.inl ⟨by rfl, ?_⟩) hHeld ?_
            rotate_left
            · intro ww hSw
              try dsimp only at hSw
              go_simp
              try with_reducible rfl
              try omega
            try simp only [Act.put, List.setIfInBounds_toArray, List.set_cons_zero, List.set_cons_succ]
            refine wpAnyH_take (i := 7) (oi := ⟨some 144, _, _, _, _, _⟩) (v := ?_) rfl (by kernel_rfl) (by kernel_rfl) (by kernel_rfl) (fun _ _ _ h => h) (Or.inl ⟨by rfl, ?_⟩) hHeld ?_
            rotate_left
            · intro ww hSw
              try dsimp only at hSw
              have Z_0 := (Z.below hSw).at_ (v := .int .i64 0) 0 rfl
              have Z_1 := (Z.below hSw).at_ (v := .int .u32 0) 1 rfl
              have Z_2 := (Z.below hSw).at_ (v := .bool false) 2 rfl
              have Z_3 := (Z.below hSw).at_ (v := .slice D5A D5n D5c) 3 rfl
              have Z_4 := (Z.below hSw).at_ (v := .slice (some ⟨b_, o_, none⟩) q Fc) 4 rfl
              have V__0 := (V_.below hSw).at_ (v := .int .i64 e_) 0 rfl
              have V__1 := (V_.below hSw).at_ (v := .int .u32 0) 1 rfl
              have V__2 := (V_.below hSw).at_ (v := .bool false) 2 rfl
              have V__3 := (V_.below hSw).at_ (v := .slice DA Dn Dc) 3 rfl
              have V__4 := (V_.below hSw).at_ (v := .slice EA En Ec) 4 rfl
              have hze := (F.below hSw).here (j := r) hlt
              rw [hz.out] at hze
              go_simp
              try with_reducible rfl
              try omega
            try simp only [Act.put, List.setIfInBounds_toArray, List.set_cons_zero, List.set_cons_succ]
            refine wpAnyH_take (i := 8) (oi := ⟨some 145, _, _, _, _, _⟩) (v := ?_) rfl (by kernel_rfl) (by kernel_rfl) (by kernel_rfl) (fun _ _ _ h => h) (Or.inl ⟨by rfl, ?_⟩) hHeld ?_
            rotate_left
            · intro ww hSw
              try dsimp only at hSw
              go_simp
              try with_reducible rfl
              try omega
            try simp only [Act.put, List.setIfInBounds_toArray, List.set_cons_zero, List.set_cons_succ]
            refine wpAnyH_take (i := 9) (oi := ⟨some 146, _, _, _, _, _⟩) (v := ?_) rfl (by kernel_rfl) (by kernel_rfl) (by kernel_rfl) (fun _ _ _ h => h) (Or.inl ⟨by rfl, ?_⟩) hHeld ?_
            rotate_left
            · intro ww hSw
              try dsimp only at hSw
              go_simp
              try with_reducible rfl
              try omega
            try simp only [Act.put, List.setIfInBounds_toArray, List.set_cons_zero, List.set_cons_succ]
            refine wpAnyH_take (i := 10) (oi := ⟨some 147, _, _, _, _, _⟩) (v := ?_) rfl (by kernel_rfl) (by kernel_rfl) (by kernel_rfl) (fun _ _ _ h => h) (Or.inl ⟨by rfl, ?_⟩) hHeld ?_
            rotate_left
            · intro ww hSw
              try dsimp only at hSw
              have Z_0 := (Z.below hSw).at_ (v := .int .i64 0) 0 rfl
              have Z_1 := (Z.below hSw).at_ (v := .int .u32 0) 1 rfl
              have Z_2 := (Z.below hSw).at_ (v := .bool false) 2 rfl
              have Z_3 := (Z.below hSw).at_ (v := .slice D5A D5n D5c) 3 rfl
              have Z_4 := (Z.below hSw).at_ (v := .slice (some ⟨b_, o_, none⟩) q Fc) 4 rfl
              have V__0 := (V_.below hSw).at_ (v := .int .i64 e_) 0 rfl
              have V__1 := (V_.below hSw).at_ (v := .int .u32 0) 1 rfl
              have V__2 := (V_.below hSw).at_ (v := .bool false) 2 rfl
              have V__3 := (V_.below hSw).at_ (v := .slice DA Dn Dc) 3 rfl
              have V__4 := (V_.below hSw).at_ (v := .slice EA En Ec) 4 rfl
              have hze := (F.below hSw).here (j := r) hlt
              rw [hz.out] at hze
              go_simp
              try with_reducible rfl
              try omega
            try simp only [Act.put, List.setIfInBounds_toArray, List.set_cons_zero, List.set_cons_succ]
            refine wpAnyH_take (i := 11) (oi := ⟨some 148, _, _, _, _, _⟩) (v := ?_) rfl (by kernel_rfl) (by kernel_rfl) (by kernel_rfl) (fun _ _ _ h => h) (Or.inl ⟨by rfl, ?_⟩) hHeld ?_
            rotate_left
            · intro ww hSw
              try dsimp only at hSw
              go_simp
              try with_reducible rfl
              try omega
            try simp only [Act.put, List.setIfInBounds_toArray, List.set_cons_zero, List.set_cons_succ]
            refine wpAnyH_take (i := 12) (oi := ⟨some 149, _, _, _, _, _⟩) (v := ?_) rfl (by kernel_rfl) (by kernel_rfl) (by kernel_rfl) (fun _ _ _ h => h) (Or.inl ⟨by rfl, ?_⟩) hHeld ?_
            rotate_left
            · intro ww hSw
              try dsimp only at hSw
              have Z_0 := (Z.below hSw).at_ (v := .int .i64 0) 0 rfl
              have Z_1 := (Z.below hSw).at_ (v := .int .u32 0) 1 rfl
              have Z_2 := (Z.below hSw).at_ (v := .bool false) 2 rfl
              have Z_3 := (Z.below hSw).at_ (v := .slice D5A D5n D5c) 3 rfl
              have Z_4 := (Z.below hSw).at_ (v := .slice (some ⟨b_, o_, none⟩) q Fc) 4 rfl
              have V__0 := (V_.below hSw).at_ (v := .int .i64 e_) 0 rfl
              have V__1 := (V_.below hSw).at_ (v := .int .u32 0) 1 rfl
              have V__2 := (V_.below hSw).at_ (v := .bool false) 2 rfl
              have V__3 := (V_.below hSw).at_ (v := .slice DA Dn Dc) 3 rfl
              have V__4 := (V_.below hSw).at_ (v := .slice EA En Ec) 4 rfl
              have hze := (F.below hSw).here (j := r) hlt
              rw [hz.out] at hze
              go_simp
              try with_reducible rfl
              try omega
            try simp only [Act.put, List.setIfInBounds_toArray, List.set_cons_zero, List.set_cons_succ]
            refine wpAnyH_take (i := 13) (oi := ⟨some 150, _, _, _, _, _⟩) (v := .bool false) rfl (by kernel_rfl) (by kernel_rfl) (by kernel_rfl) (fun _ _ _ h => h) (Or.inl ⟨by rfl, ?_⟩) hHeld ?_
            · intro ww hSw
              try dsimp only at hSw
              go_simp
              try with_reducible rfl
              try omega
            try simp only [Act.put, List.setIfInBounds_toArray, List.set_cons_zero, List.set_cons_succ]
            refine wpAnyH_take (i := 14) (oi := ⟨some 151, _, _, _, _, _⟩) (v := .bool false) rfl (by kernel_rfl) (by kernel_rfl) (by kernel_rfl) (fun _ _ _ h => h) (Or.inl ⟨by rfl, ?_⟩) hHeld ?_
            · intro ww hSw
              try dsimp only at hSw
              go_simp
              try with_reducible rfl
              try omega
            try simp only [Act.put, List.setIfInBounds_toArray, List.set_cons_zero, List.set_cons_succ]
            refine wpAnyH_done (by kernel_rfl) ?_ _
            replace H := H.below hHeld
            replace Z := Z.below hHeld
            replace V_ := V_.below hHeld
            replace hL := hL.below hHeld
            replace h := h.below hHeld
            replace hy := hy.below hHeld
            replace HI := HI.below hHeld
            replace V := V.below hHeld
            replace F := F.below hHeld
            replace S2 := S2.below hHeld
            replace D := D.below hHeld
            replace E := E.below hHeld
            replace K := Below.then_ K hHeld
            clear hHeld
            go_wp2
            go_roundw
            case rel => exact ⟨r + 1, _, _, _, by omega, by go_num, rfl, Lib.hid S2, Lib.hid V, Lib.hid F, Lib.hid H, Lib.hid Z, K⟩
            case measure => simp [intOf]; omega
          · obtain rfl : q = r := by omega
            rw [List.take_of_length_le (by omega)] at HI
            go_wp2_with fail
            refine (ints_same V HI (by omega)).mono ?_
            rintro e w19 ⟨rfl, K'⟩
            replace H := H.below K'
            replace Z := Z.below K'
            replace hL := hL.below K'
            replace h := h.below K'
            replace hy := hy.below K'
            replace HI := HI.below K'
            replace V := V.below K'
            replace F := F.below K'
            replace K := Below.then_ K K'
            clear K'
            have Z_0 := Z.at_ (v := .int .i64 0) 0 rfl
            have Z_1 := Z.at_ (v := .int .u32 0) 1 rfl
            have Z_2 := Z.at_ (v := .bool false) 2 rfl
            have Z_3 := Z.at_ (v := .slice D5A D5n D5c) 3 rfl
            have Z_4 := Z.at_ (v := .slice FA q Fc) 4 rfl
            have Z_z := Z.lt
            go_wp2
            go_ret
            exact ⟨rfl, K⟩
      · have e3 : (eb != 0) = true := by simp [heb0]
        clear heb0
        go_wp2
        go_ret
        exact ⟨rfl, K⟩
  · have e2 : (E_ != 0) = true := by simp [hE0]
    clear hE0
    go_wp2
    go_ret
    exact ⟨rfl, K⟩
theorem walk (a p : Int) (A : Option Addr) (n c : Nat) (z : List Int) (sh wo qu tr : Int) (B : Option Addr) (m d : Nat) (zb : List Int) (x : Int) (C : Option Addr) (q f : Nat) (y : List Int) (w : World) (hL : Laid w) (wa : (Lit.int .u32 a).wf = true) (wr : IsRow .i64 w A n c z) (wb : IsRow .i64 w B m d zb) (wx : (Lit.int .u32 x).wf = true) (wy : IsRow .u32 w C q f y) :
    Calls Tryd.prog 5 #[.agg #[.int .u32 a, .int .i64 p, .slice A n c, .int .i64 sh, .int .i64 wo, .int .i64 qu, .int .i64 tr], .slice B m d, .int .u32 x, .slice C q f] w fun e w' => e = .returned (.bool true) ∧ Below w.heap.size w w' := by
  obtain ⟨a, rfl, ha⟩ := wf_u32 wa
  obtain ⟨Y, rfl, hY⟩ := wf_u32 wx
  obtain ⟨zs, h, _⟩ := IS.of_row wr
  obtain ⟨xs, hs, _⟩ := IS.of_row wb
  obtain ⟨ys, hy, hw⟩ := row_u32 wy
  exact main hL ha h hs hy hw hY
end
end Go.Proofs.YtmakbmmnjbnfiaaDoor.specBack
