/-
  The least offset that can be, searched by the program, and what a Grant comes to. Conditions: a block that may be; a rising set of offsets.
-/
import Derived.Test.YtmakbmmnjbnfiaaDoorSpecDo
namespace Go.Proofs.YtmakbmmnjbnfiaaDoor
open Go.RowKit
set_option linter.unusedVariables false
/-- What least answers. -/
def leO (zs xs : List Int) (M : Nat) : Int := match lea zs xs M with | some o => (o : Int) | none => 0
def leB (zs xs : List Int) (M : Nat) : Bool := match lea zs xs M with | some _ => true | none => false
section
variable {w : World} {lo lo2 lo3 a M m d q f X : Nat} {p sh wo qu tr k : Int} {A B C : Option Addr} {n c : Nat} {zs xs ys : List Int}
set_option maxRecDepth 100000 in
set_option maxHeartbeats 4000000 in
theorem least_any (ha : a < 4294967296) (hM : Much a p M) (h0 : IS .i64 lo w A n c zs) (hn : n ≤ 65536) (hs0 : IS .i64 lo2 w B m d xs) (hm : m ≤ 60000) (hr : Ris xs) (hb : ∀ x ∈ xs, 0 ≤ x) :
    Calls Tryd.prog 57 #[.agg #[.int .u32 (a : Int), .int .i64 p, .slice A n c, .int .i64 sh, .int .i64 wo, .int .i64 qu, .int .i64 tr], .slice B m d] w fun e w' => e = .returned (.tuple #[.int .i64 (leO zs xs M), .bool (leB zs xs M)]) ∧ Below w.heap.size w w' := by
  have hMm := hM.most
  have L0 := Lib.hid (LI.start (zs := zs) hb)
  clear hb
  replace hr := Lib.hid hr
  have h := h0
  have hs := hs0
  have K := Below.refl w.heap.size w
  go_enter Tryd.func57, Tryd.ntmps57
  go_upto_region 1 with (fail)
  have KS := K.size
  replace h := h.below (below_alloc _ (.cells #[.int .u32 (a : Int), .int .i64 p, .slice A n c, .int .i64 sh, .int .i64 wo, .int .i64 qu, .int .i64 tr] 27))
  replace hs := hs.below (below_alloc _ (.cells #[.int .u32 (a : Int), .int .i64 p, .slice A n c, .int .i64 sh, .int .i64 wo, .int .i64 qu, .int .i64 tr] 27))
  replace K := Below.then_ K (below_alloc _ (.cells #[.int .u32 (a : Int), .int .i64 p, .slice A n c, .int .i64 sh, .int .i64 wo, .int .i64 qu, .int .i64 tr] 27))
  have H := Bk.new (w) #[.int .u32 (a : Int), .int .i64 p, .slice A n c, .int .i64 sh, .int .i64 wo, .int .i64 qu, .int .i64 tr] 27
  try simp only [World.size_alloc] at H
  generalize (w).alloc (.cells #[.int .u32 (a : Int), .int .i64 p, .slice A n c, .int .i64 sh, .int .i64 wo, .int .i64 qu, .int .i64 tr] 27) = w1 at H h hs K ⊢
  generalize hgH : w.heap.size = gH at H ⊢
  have H_b : w.heap.size ≤ gH := by omega
  clear KS hgH 
  have H_0 := H.at_ (v := .int .u32 (a : Int)) 0 rfl
  have H_1 := H.at_ (v := .int .i64 p) 1 rfl
  have H_2 := H.at_ (v := .slice A n c) 2 rfl
  have H_3 := H.at_ (v := .int .i64 sh) 3 rfl
  have H_4 := H.at_ (v := .int .i64 wo) 4 rfl
  have H_5 := H.at_ (v := .int .i64 qu) 5 rfl
  have H_6 := H.at_ (v := .int .i64 tr) 6 rfl
  have H_z := H.lt
  go_wp2_with fail
  refine (many_yes ha hM).mono ?_
  rintro e w2 ⟨rfl, K'⟩
  clear H_0 H_1 H_2 H_3 H_4 H_5 H_6 H_z
  replace H := H.below K'
  replace h := h.below K'
  replace hs := hs.below K'
  replace K := Below.then_ K K'
  clear K'
  have hsm := hs.most
  unfold maxLen at hsm
  go_wp2
  go_loopw [1, 10] (fun s i wr => ∃ (k j q f : Nat) (C : Option Addr), k ≤ M ∧ i = .int .i64 k ∧ s = .slice C q f ∧ Hid (LI zs xs k j) ∧ Hid (IS .i64 lo2 wr C q f (xs.drop j)) ∧ Below w2.heap.size w2 wr) (fun _ i _ => M - (intOf i).toNat)
  case atStart => exact ⟨0, 0, m, d, B, Nat.zero_le _, rfl, rfl, L0, Lib.hid (by rw [List.drop_zero]; exact hs), Below.refl _ _⟩
  case round =>
    obtain ⟨k, j, q, f, C, hk, rfl, rfl, L, HI, Kr⟩ := hrel
    clear L0 hs
    replace H := H.below Kr
    replace h := h.below Kr
    replace K := Below.then_ K Kr
    by_cases hlt : k < M
    · have hq := HI.out.len
      rw [List.length_drop] at hq
      rcases Nat.eq_zero_or_pos q with hq0 | hq0
      · have he : Hid (j < xs.length → gi xs j ≠ (k : Int)) := Lib.hid (fun g => by omega)
        subst hq0
        clear hq
        cases hh : hasB zs (k : Int) with
        | true =>
          have L2 := Lib.hid (L.out.held he.out hr.out hh)
          have T := Lib.hid (held_is (a := a) (p := p) (sh := sh) (wo := wo) (qu := qu) (tr := tr) h hn hh)
          replace hh := Lib.hid hh
          have H_0 := H.at_ (v := .int .u32 (a : Int)) 0 rfl
          have H_1 := H.at_ (v := .int .i64 p) 1 rfl
          have H_2 := H.at_ (v := .slice A n c) 2 rfl
          have H_3 := H.at_ (v := .int .i64 sh) 3 rfl
          have H_4 := H.at_ (v := .int .i64 wo) 4 rfl
          have H_5 := H.at_ (v := .int .i64 qu) 5 rfl
          have H_6 := H.at_ (v := .int .i64 tr) 6 rfl
          have H_z := H.lt
          go_wp2_with fail
          refine T.out.mono ?_
          rintro e w3 ⟨rfl, K'⟩
          clear H_0 H_1 H_2 H_3 H_4 H_5 H_6 H_z
          have HI2 := Lib.hid (HI.out.below K')
          replace H := H.below K'
          replace h := h.below K'
          replace Kr := Below.then_ Kr K'
          replace K := Below.then_ K K'
          clear K'
          go_wp2
          go_roundw
          case rel => exact ⟨k + 1, j, _, _, _, by omega, by go_num, rfl, L2, HI2, Kr⟩
          case measure => simp [intOf]; omega
        | false =>
          have L2 := Lib.hid (L.out.found hr.out he.out hh hlt)
          have T := Lib.hid (held_is (a := a) (p := p) (sh := sh) (wo := wo) (qu := qu) (tr := tr) h hn hh)
          replace hh := Lib.hid hh
          have H_0 := H.at_ (v := .int .u32 (a : Int)) 0 rfl
          have H_1 := H.at_ (v := .int .i64 p) 1 rfl
          have H_2 := H.at_ (v := .slice A n c) 2 rfl
          have H_3 := H.at_ (v := .int .i64 sh) 3 rfl
          have H_4 := H.at_ (v := .int .i64 wo) 4 rfl
          have H_5 := H.at_ (v := .int .i64 qu) 5 rfl
          have H_6 := H.at_ (v := .int .i64 tr) 6 rfl
          have H_z := H.lt
          go_wp2_with fail
          refine T.out.mono ?_
          rintro e w3 ⟨rfl, K'⟩
          clear H_0 H_1 H_2 H_3 H_4 H_5 H_6 H_z
          replace H := H.below K'
          replace h := h.below K'
          replace K := Below.then_ K K'
          clear K'
          go_wp2
          go_ret2
          exact ⟨ret_ib (by unfold leO; rw [L2.out]) (by unfold leB; rw [L2.out]), K⟩
      · obtain ⟨b, o, rfl, _, hlo, hc⟩ := HI.out.cells hq0
        have hc0 := hc 0 hq0
        rw [gi_drop, Nat.add_zero, Nat.add_zero] at hc0
        clear hc
        obtain ⟨q, rfl⟩ : ∃ r, q = r + 1 := ⟨q - 1, by omega⟩
        have hqf := HI.out.cap
        have hfm := HI.out.most
        unfold maxLen at hfm
        obtain ⟨f, rfl⟩ : ∃ r, f = r + 1 := ⟨f - 1, by omega⟩
        have g1 : decide ((0 : Int) < ((q + 1 : Nat) : Int)) = true := decide_eq_true (by omega)
        by_cases hx : gi xs j = (k : Int)
        · have L2 := Lib.hid (L.out.hit hr.out (by omega) hx)
          have g2 : (gi xs j == (k : Int)) = true := by simp [hx]
          rw [hx] at hc0
          replace hx := Lib.hid hx
          have hdd : (xs.drop j).drop 1 = xs.drop (j + 1) := by rw [List.drop_drop]
          rcases Nat.eq_zero_or_pos f with hf0 | hf0
          · subst hf0
            obtain rfl : q = 0 := by omega
            have I2 := HI.out.cut_eq (d := 1) (Nat.le_refl _)
            rw [hdd] at I2
            replace I2 := Lib.hid I2
            clear HI hdd
            go_wp2
            go_roundw
            case rel => exact ⟨k + 1, j + 1, _, _, _, by omega, by go_num, rfl, L2, I2, Kr⟩
            case measure => simp [intOf]; omega
          · have I2 := HI.out.cut_ne (d := 1) (by omega) (by omega)
            rw [hdd, Nat.add_sub_cancel, Nat.add_sub_cancel] at I2
            replace I2 := Lib.hid I2
            clear HI hdd
            go_wp2
            go_roundw
            case rel => exact ⟨k + 1, j + 1, _, _, _, by omega, by go_num, rfl, L2, I2, Kr⟩
            case measure => simp [intOf]; omega
        · have he : Hid (j < xs.length → gi xs j ≠ (k : Int)) := Lib.hid (fun _ => hx)
          have g2 : (gi xs j == (k : Int)) = false := by simp [hx]
          replace hx := Lib.hid hx
          generalize hy : gi xs j = y at hc0 g2
          clear hy
          cases hh : hasB zs (k : Int) with
          | true =>
            have L2 := Lib.hid (L.out.held he.out hr.out hh)
            have T := Lib.hid (held_is (a := a) (p := p) (sh := sh) (wo := wo) (qu := qu) (tr := tr) h hn hh)
            replace hh := Lib.hid hh
            have H_0 := H.at_ (v := .int .u32 (a : Int)) 0 rfl
            have H_1 := H.at_ (v := .int .i64 p) 1 rfl
            have H_2 := H.at_ (v := .slice A n c) 2 rfl
            have H_3 := H.at_ (v := .int .i64 sh) 3 rfl
            have H_4 := H.at_ (v := .int .i64 wo) 4 rfl
            have H_5 := H.at_ (v := .int .i64 qu) 5 rfl
            have H_6 := H.at_ (v := .int .i64 tr) 6 rfl
            have H_z := H.lt
            go_wp2_with fail
            refine T.out.mono ?_
            rintro e w3 ⟨rfl, K'⟩
            clear H_0 H_1 H_2 H_3 H_4 H_5 H_6 H_z
            have HI2 := Lib.hid (HI.out.below K')
            replace H := H.below K'
            replace h := h.below K'
            replace Kr := Below.then_ Kr K'
            replace K := Below.then_ K K'
            clear K'
            go_wp2
            go_roundw
            case rel => exact ⟨k + 1, j, _, _, _, by omega, by go_num, rfl, L2, HI2, Kr⟩
            case measure => simp [intOf]; omega
          | false =>
            have L2 := Lib.hid (L.out.found hr.out he.out hh hlt)
            have T := Lib.hid (held_is (a := a) (p := p) (sh := sh) (wo := wo) (qu := qu) (tr := tr) h hn hh)
            replace hh := Lib.hid hh
            have H_0 := H.at_ (v := .int .u32 (a : Int)) 0 rfl
            have H_1 := H.at_ (v := .int .i64 p) 1 rfl
            have H_2 := H.at_ (v := .slice A n c) 2 rfl
            have H_3 := H.at_ (v := .int .i64 sh) 3 rfl
            have H_4 := H.at_ (v := .int .i64 wo) 4 rfl
            have H_5 := H.at_ (v := .int .i64 qu) 5 rfl
            have H_6 := H.at_ (v := .int .i64 tr) 6 rfl
            have H_z := H.lt
            go_wp2_with fail
            refine T.out.mono ?_
            rintro e w3 ⟨rfl, K'⟩
            clear H_0 H_1 H_2 H_3 H_4 H_5 H_6 H_z
            replace H := H.below K'
            replace h := h.below K'
            replace K := Below.then_ K K'
            clear K'
            go_wp2
            go_ret2
            exact ⟨ret_ib (by unfold leO; rw [L2.out]) (by unfold leB; rw [L2.out]), K⟩
    · have L2 := Lib.hid (L.out.end_ (M := M) (by omega))
      go_wp2
      go_ret2
      exact ⟨ret_ib (by unfold leO; rw [L2.out]) (by unfold leB; rw [L2.out]), K⟩
set_option maxRecDepth 100000 in
set_option maxHeartbeats 4000000 in
theorem grant_yes (ha : a < 4294967296) (hM : Much a p M) (h0 : IS .i64 lo w A n c zs) (hn : n ≤ 65536) (hs0 : IS .i64 lo2 w B m d xs) (hm : m ≤ 60000) (hr : Ris xs) (hX : X < 4294967296) (hb : ∀ x ∈ xs, 0 ≤ x) {o : Nat} (hl : lea zs xs M = some o) :
    Calls Tryd.prog 49 #[.agg #[.int .u32 (a : Int), .int .i64 p, .slice A n c, .int .i64 sh, .int .i64 wo, .int .i64 qu, .int .i64 tr], .slice B m d, .agg #[.int .i64 k, .int .u32 (X : Int), .slice C q f]] w (RetSA B m (ins xs (o : Int)) (okA ((a + o : Nat) : Int)) w) := by
  have hMm := hM.most
  obtain ⟨ho, hf, -⟩ := lea_is hl
  have hx := (fr_iff.1 hf).2
  have hfit := hM.fits ha
  have h := h0
  have hs := hs0
  have K := Below.refl w.heap.size w
  go_enter Tryd.func49, Tryd.ntmps49
  go_upto_region 1 with (fail)
  have KS := K.size
  replace h := h.below (below_alloc _ (.cells #[.int .u32 (a : Int), .int .i64 p, .slice A n c, .int .i64 sh, .int .i64 wo, .int .i64 qu, .int .i64 tr] 27))
  replace hs := hs.below (below_alloc _ (.cells #[.int .u32 (a : Int), .int .i64 p, .slice A n c, .int .i64 sh, .int .i64 wo, .int .i64 qu, .int .i64 tr] 27))
  replace K := Below.then_ K (below_alloc _ (.cells #[.int .u32 (a : Int), .int .i64 p, .slice A n c, .int .i64 sh, .int .i64 wo, .int .i64 qu, .int .i64 tr] 27))
  have H := Bk.new (w) #[.int .u32 (a : Int), .int .i64 p, .slice A n c, .int .i64 sh, .int .i64 wo, .int .i64 qu, .int .i64 tr] 27
  replace H := H.alloc (.cells #[.int .i64 k, .int .u32 (X : Int), .slice C q f] 30)
  replace h := h.below (below_alloc _ (.cells #[.int .i64 k, .int .u32 (X : Int), .slice C q f] 30))
  replace hs := hs.below (below_alloc _ (.cells #[.int .i64 k, .int .u32 (X : Int), .slice C q f] 30))
  replace K := Below.then_ K (below_alloc _ (.cells #[.int .i64 k, .int .u32 (X : Int), .slice C q f] 30))
  have G := Bk.new ((w).alloc (.cells #[.int .u32 (a : Int), .int .i64 p, .slice A n c, .int .i64 sh, .int .i64 wo, .int .i64 qu, .int .i64 tr] 27)) #[.int .i64 k, .int .u32 (X : Int), .slice C q f] 30
  replace H := H.alloc (.cells #[.int .i64 0, .int .u32 0, .bool false, .slice none 0 0, .slice none 0 0] 34)
  replace G := G.alloc (.cells #[.int .i64 0, .int .u32 0, .bool false, .slice none 0 0, .slice none 0 0] 34)
  replace h := h.below (below_alloc _ (.cells #[.int .i64 0, .int .u32 0, .bool false, .slice none 0 0, .slice none 0 0] 34))
  replace hs := hs.below (below_alloc _ (.cells #[.int .i64 0, .int .u32 0, .bool false, .slice none 0 0, .slice none 0 0] 34))
  replace K := Below.then_ K (below_alloc _ (.cells #[.int .i64 0, .int .u32 0, .bool false, .slice none 0 0, .slice none 0 0] 34))
  have R := Bk.new (((w).alloc (.cells #[.int .u32 (a : Int), .int .i64 p, .slice A n c, .int .i64 sh, .int .i64 wo, .int .i64 qu, .int .i64 tr] 27)).alloc (.cells #[.int .i64 k, .int .u32 (X : Int), .slice C q f] 30)) #[.int .i64 0, .int .u32 0, .bool false, .slice none 0 0, .slice none 0 0] 34
  try simp only [World.size_alloc] at H G R
  generalize (((w).alloc (.cells #[.int .u32 (a : Int), .int .i64 p, .slice A n c, .int .i64 sh, .int .i64 wo, .int .i64 qu, .int .i64 tr] 27)).alloc (.cells #[.int .i64 k, .int .u32 (X : Int), .slice C q f] 30)).alloc (.cells #[.int .i64 0, .int .u32 0, .bool false, .slice none 0 0, .slice none 0 0] 34) = w1 at H G R h hs K ⊢
  generalize hgR : w.heap.size + 1 + 1 = gR at H G R ⊢
  generalize hgG : w.heap.size + 1 = gG at H G R ⊢
  generalize hgH : w.heap.size = gH at H G R ⊢
  have H_b : w.heap.size ≤ gH := by omega
  have G_b : w.heap.size ≤ gG := by omega
  have R_b : w.heap.size ≤ gR := by omega
  have ne_H_G : gH ≠ gG := by omega
  have ne_H_R : gH ≠ gR := by omega
  have ne_G_R : gG ≠ gR := by omega
  clear KS hgH hgG hgR 
  have T := least_any (sh := sh) (wo := wo) (qu := qu) (tr := tr) ha hM h hn hs hm hr hb
  rw [show leO zs xs M = (o : Int) by unfold leO; rw [hl], show leB zs xs M = true by unfold leB; rw [hl]] at T
  replace T := Lib.hid T
  replace hb := Lib.hid hb
  have H_0 := H.at_ (v := .int .u32 (a : Int)) 0 rfl
  have H_1 := H.at_ (v := .int .i64 p) 1 rfl
  have H_2 := H.at_ (v := .slice A n c) 2 rfl
  have H_3 := H.at_ (v := .int .i64 sh) 3 rfl
  have H_4 := H.at_ (v := .int .i64 wo) 4 rfl
  have H_5 := H.at_ (v := .int .i64 qu) 5 rfl
  have H_6 := H.at_ (v := .int .i64 tr) 6 rfl
  have H_z := H.lt
  go_wp2_with fail
  refine (T.out).mono ?_
  rintro e w2 ⟨rfl, K'⟩
  clear H_0 H_1 H_2 H_3 H_4 H_5 H_6 H_z
  replace H := H.below K'
  replace G := G.below K'
  replace R := R.below K'
  replace h := h.below K'
  replace hs := hs.below K'
  replace K := Below.then_ K K'
  clear K'
  clear T
  have hx2 := Lib.hid hx
  clear hx hf
  have TA := fun w => Lib.hid (show Calls _ _ _ _ _ from by have T := address_any (a := a) (p := p) o (by omega) (w := w); rw [Nat.mod_eq_of_lt (by omega)] at T; exact T)
  go_wp2
  refine wp_region_held_drew (S := fun w' => Below w.heap.size w w' ∧ Bk w' gH 27 #[.int .u32 (a : Int), .int .i64 p, .slice A n c, .int .i64 sh, .int .i64 wo, .int .i64 qu, .int .i64 tr] ∧ Bk w' gG 30 #[.int .i64 k, .int .u32 (X : Int), .slice C q f] ∧ (∃ v : Array Value, v.size = 5 ∧ Bk w' gR 34 v) ∧ True) (by kernel_rfl) ⟨K.drew, H.below ((Below.refl _ _).drew), G.below ((Below.refl _ _).drew), ⟨_, rfl, R.below ((Below.refl _ _).drew)⟩, trivial⟩ (fun hHeld => ?_)
  generalize w2.drew = v3 at hHeld  ⊢
  refine wpAnyH_take (i := 0) (oi := ⟨some 20, _, _, _, _, _⟩) (v := ?_) rfl (by kernel_rfl) (by kernel_rfl) (by kernel_rfl) (fun _ _ _ h => h) (Or.inl ⟨by rfl, ?_⟩) hHeld ?_
  rotate_left
  · intro ww hSw
    try dsimp only at hSw
    go_simp
    try with_reducible rfl
    try omega
  try simp only [Act.put, List.setIfInBounds_toArray, List.set_cons_zero, List.set_cons_succ]
  refine wpAnyH_take (i := 1) (oi := ⟨some 21, _, _, _, _, _⟩) (v := ?_) rfl (by kernel_rfl) (by kernel_rfl) (by kernel_rfl) (fun _ _ _ h => h) (Or.inl ⟨by rfl, ?_⟩) hHeld ?_
  rotate_left
  · intro ww hSw
    try dsimp only at hSw
    go_simp
    try with_reducible rfl
    try omega
  try simp only [Act.put, List.setIfInBounds_toArray, List.set_cons_zero, List.set_cons_succ]
  refine wpAnyH_take (i := 3) (oi := ⟨some 23, _, _, _, _, _⟩) (v := ?_) rfl (by kernel_rfl) (by kernel_rfl) (by kernel_rfl) (fun _ _ _ h => h) (Or.inl ⟨by rfl, ?_⟩) hHeld ?_
  rotate_left
  · intro ww hSw
    try dsimp only at hSw
    go_simp
    try with_reducible rfl
    try omega
  try simp only [Act.put, List.setIfInBounds_toArray, List.set_cons_zero, List.set_cons_succ]
  refine wpAnyH_take (i := 4) (oi := ⟨some 24, _, _, _, _, _⟩) (v := ?_) rfl (by kernel_rfl) (by kernel_rfl) (by kernel_rfl) (fun _ _ _ h => h) (Or.inl ⟨by rfl, ?_⟩) hHeld ?_
  rotate_left
  · intro ww hSw
    try dsimp only at hSw
    have H_0 := (hSw.2.1).at_ (v := .int .u32 (a : Int)) 0 rfl
    have H_1 := (hSw.2.1).at_ (v := .int .i64 p) 1 rfl
    have H_2 := (hSw.2.1).at_ (v := .slice A n c) 2 rfl
    have H_3 := (hSw.2.1).at_ (v := .int .i64 sh) 3 rfl
    have H_4 := (hSw.2.1).at_ (v := .int .i64 wo) 4 rfl
    have H_5 := (hSw.2.1).at_ (v := .int .i64 qu) 5 rfl
    have H_6 := (hSw.2.1).at_ (v := .int .i64 tr) 6 rfl
    have H_z := (hSw.2.1).lt
    go_simp
    try with_reducible rfl
    try omega
  try simp only [Act.put, List.setIfInBounds_toArray, List.set_cons_zero, List.set_cons_succ]
  refine wpAnyH_take (i := 5) (oi := ⟨some 25, _, _, _, _, _⟩) (v := ?_) rfl (by kernel_rfl) (by kernel_rfl) (by kernel_rfl) (fun _ _ _ h => h) (Or.inl ⟨by rfl, ?_⟩) hHeld ?_
  rotate_left
  · intro ww hSw
    try dsimp only at hSw
    go_simp
    try with_reducible rfl
    try omega
  try simp only [Act.put, List.setIfInBounds_toArray, List.set_cons_zero, List.set_cons_succ]
  refine wpAnyH_ready (rs := [2]) (by kernel_rfl) (by simp) ?_
  refine AllReadyH.cons (o := ⟨some 22, _, _, _, _, _⟩) rfl (fun K0 hK => ?_) AllReadyH.nil
  go_simp
  refine (mwith_new (hs0.below hHeld.1) (by omega) hr (o : Int) hx2.out).mono ?_
  have H_l := (hHeld.2.1).lt
  have G_l := (hHeld.2.2.1).lt
  have R_l := (hHeld.2.2.2.1.choose_spec.2).lt
  rintro e v4 ⟨IA, In, Ic, rfl, I, K'⟩
  have I_old : ∀ g, g < w.heap.size → Av g IA In := fun g hg => I.av (Nat.lt_of_lt_of_le hg (Below.size hHeld.1))
  have I_R := I.av R_l
  replace I := I.lower (Nat.zero_le _)
  refine hK.out _ _ ⟨Below.then_ hHeld.1 K', hHeld.2.1.below K', hHeld.2.2.1.below K', ⟨_, hHeld.2.2.2.1.choose_spec.1, hHeld.2.2.2.1.choose_spec.2.below K'⟩, trivial⟩ (fun hHeld' => ?_)
  clear hHeld K' hK K0
  clear H_l G_l R_l
  have hHeld := hHeld'
  clear hHeld'
  try simp only [Act.put, List.setIfInBounds_toArray, List.set_cons_zero, List.set_cons_succ]
  refine wpAnyH_ready (rs := [6]) (by kernel_rfl) (by simp) ?_
  refine AllReadyH.cons (o := ⟨some 26, _, _, _, _, _⟩) rfl (fun K0 hK => ?_) AllReadyH.nil
  go_simp
  refine ((TA _).out).mono ?_
  rintro e v5 ⟨rfl, K'⟩
  refine hK.out _ _ ⟨Below.then_ hHeld.1 K', hHeld.2.1.below K', hHeld.2.2.1.below K', ⟨_, hHeld.2.2.2.1.choose_spec.1, hHeld.2.2.2.1.choose_spec.2.below K'⟩, trivial⟩ (fun hHeld' => ?_)
  replace I := I.below K'
  clear hHeld K' hK K0
  have hHeld := hHeld'
  clear hHeld'
  try simp only [Act.put, List.setIfInBounds_toArray, List.set_cons_zero, List.set_cons_succ]
  refine wpAnyH_take (i := 7) (oi := ⟨some 27, _, _, _, _, _⟩) (v := ?_) rfl (by kernel_rfl) (by kernel_rfl) (by kernel_rfl) (fun _ _ _ h => h) (Or.inl ⟨by rfl, ?_⟩) hHeld ?_
  rotate_left
  · intro ww hSw
    try dsimp only at hSw
    go_simp
    try with_reducible rfl
    try omega
  try simp only [Act.put, List.setIfInBounds_toArray, List.set_cons_zero, List.set_cons_succ]
  refine wpAnyH_take (i := 8) (oi := ⟨some 6, _, _, _, _, _⟩) (v := ?_) rfl (by kernel_rfl) (by kernel_rfl) (by kernel_rfl) (fun _ _ _ h => h) (Or.inl ⟨by rfl, ?_⟩) hHeld ?_
  rotate_left
  · intro ww hSw
    try dsimp only at hSw
    go_simp
    try with_reducible rfl
    try omega
  try simp only [Act.put, List.setIfInBounds_toArray, List.set_cons_zero, List.set_cons_succ]
  refine wpAnyH_ready (rs := [9]) (by kernel_rfl) (by simp) ?_
  refine AllReadyH.cons (o := ⟨none, _, _, _, _, _⟩) rfl (fun K0 hK => ?_) AllReadyH.nil
  rw [if_pos (by rfl)]
  refine wp_store_row 34 (.tmp 7) (.tmp 27) rfl gR _ rfl (show _ = Value.agg #[.int .i64 0, .int .u32 ((a + o : Nat) : Int), .bool false, .slice none 0 0, .slice none 0 0] from rfl) _ _ hHeld.2.2.2.1.choose_spec.2 an_sz hHeld.2.2.2.1.choose_spec.1 (by simp [Value.oneCell']) ?_
  have new_R := Bk.row hHeld.2.2.2.1.choose_spec.2 #[.int .i64 0, .int .u32 ((a + o : Nat) : Int), .bool false, .slice none 0 0, .slice none 0 0]
  refine hK.out _ _ ⟨below_setRow hHeld.1 R_b _, hHeld.2.1.row_far ne_H_R _, hHeld.2.2.1.row_far ne_G_R _, ⟨_, rfl, new_R⟩, trivial⟩ (fun hHeld' => ?_)
  replace I := I.row_av I_R #[.int .i64 0, .int .u32 ((a + o : Nat) : Int), .bool false, .slice none 0 0, .slice none 0 0]
  clear hHeld hK K0
  have hHeld := hHeld'
  clear hHeld'
  generalize v5.setRow gR #[.int .i64 0, .int .u32 ((a + o : Nat) : Int), .bool false, .slice none 0 0, .slice none 0 0] = v6 at hHeld new_R I ⊢
  try simp only [Act.put]
  refine wpAnyH_done (by kernel_rfl) ?_ _
  replace K := hHeld.1
  replace H := hHeld.2.1
  replace G := hHeld.2.2.1
  replace R := new_R
  clear new_R
  clear hHeld
  replace h := h0.below K
  replace hs := hs0.below K
  go_wp2
  refine bodyPost_ret (v := .tuple #[.slice IA In Ic, .agg #[.int .i64 0, .int .u32 ((a + o : Nat) : Int), .bool false, .slice none 0 0, .slice none 0 0]]) ?_ rfl ?_
  · exact results_tc (fn := Tryd.f49) Tryd.results49 _ _ gR _ _ (0, 0) _ rfl R Tryd.underlying34 rfl an_sz
  exact ⟨_, _, _, _, _, _, _, _, _, rfl, I, (fun g hg _ => I_old g hg), IS.none_ _ _ _, IS.none_ _ _ _, K⟩
set_option maxRecDepth 100000 in
set_option maxHeartbeats 4000000 in
theorem grant_no (ha : a < 4294967296) (hM : Much a p M) (h0 : IS .i64 lo w A n c zs) (hn : n ≤ 65536) (hs0 : IS .i64 lo2 w B m d xs) (hm : m ≤ 60000) (hr : Ris xs) (hX : X < 4294967296) (hb : ∀ x ∈ xs, 0 ≤ x) (hl : lea zs xs M = none) :
    Calls Tryd.prog 49 #[.agg #[.int .u32 (a : Int), .int .i64 p, .slice A n c, .int .i64 sh, .int .i64 wo, .int .i64 qu, .int .i64 tr], .slice B m d, .agg #[.int .i64 k, .int .u32 (X : Int), .slice C q f]] w (RetSA B m xs (an0 9) w) := by
  have hMm := hM.most
  have h := h0
  have hs := hs0
  have K := Below.refl w.heap.size w
  go_enter Tryd.func49, Tryd.ntmps49
  go_upto_region 1 with (fail)
  have KS := K.size
  replace h := h.below (below_alloc _ (.cells #[.int .u32 (a : Int), .int .i64 p, .slice A n c, .int .i64 sh, .int .i64 wo, .int .i64 qu, .int .i64 tr] 27))
  replace hs := hs.below (below_alloc _ (.cells #[.int .u32 (a : Int), .int .i64 p, .slice A n c, .int .i64 sh, .int .i64 wo, .int .i64 qu, .int .i64 tr] 27))
  replace K := Below.then_ K (below_alloc _ (.cells #[.int .u32 (a : Int), .int .i64 p, .slice A n c, .int .i64 sh, .int .i64 wo, .int .i64 qu, .int .i64 tr] 27))
  have H := Bk.new (w) #[.int .u32 (a : Int), .int .i64 p, .slice A n c, .int .i64 sh, .int .i64 wo, .int .i64 qu, .int .i64 tr] 27
  replace H := H.alloc (.cells #[.int .i64 k, .int .u32 (X : Int), .slice C q f] 30)
  replace h := h.below (below_alloc _ (.cells #[.int .i64 k, .int .u32 (X : Int), .slice C q f] 30))
  replace hs := hs.below (below_alloc _ (.cells #[.int .i64 k, .int .u32 (X : Int), .slice C q f] 30))
  replace K := Below.then_ K (below_alloc _ (.cells #[.int .i64 k, .int .u32 (X : Int), .slice C q f] 30))
  have G := Bk.new ((w).alloc (.cells #[.int .u32 (a : Int), .int .i64 p, .slice A n c, .int .i64 sh, .int .i64 wo, .int .i64 qu, .int .i64 tr] 27)) #[.int .i64 k, .int .u32 (X : Int), .slice C q f] 30
  replace H := H.alloc (.cells #[.int .i64 0, .int .u32 0, .bool false, .slice none 0 0, .slice none 0 0] 34)
  replace G := G.alloc (.cells #[.int .i64 0, .int .u32 0, .bool false, .slice none 0 0, .slice none 0 0] 34)
  replace h := h.below (below_alloc _ (.cells #[.int .i64 0, .int .u32 0, .bool false, .slice none 0 0, .slice none 0 0] 34))
  replace hs := hs.below (below_alloc _ (.cells #[.int .i64 0, .int .u32 0, .bool false, .slice none 0 0, .slice none 0 0] 34))
  replace K := Below.then_ K (below_alloc _ (.cells #[.int .i64 0, .int .u32 0, .bool false, .slice none 0 0, .slice none 0 0] 34))
  have R := Bk.new (((w).alloc (.cells #[.int .u32 (a : Int), .int .i64 p, .slice A n c, .int .i64 sh, .int .i64 wo, .int .i64 qu, .int .i64 tr] 27)).alloc (.cells #[.int .i64 k, .int .u32 (X : Int), .slice C q f] 30)) #[.int .i64 0, .int .u32 0, .bool false, .slice none 0 0, .slice none 0 0] 34
  try simp only [World.size_alloc] at H G R
  generalize (((w).alloc (.cells #[.int .u32 (a : Int), .int .i64 p, .slice A n c, .int .i64 sh, .int .i64 wo, .int .i64 qu, .int .i64 tr] 27)).alloc (.cells #[.int .i64 k, .int .u32 (X : Int), .slice C q f] 30)).alloc (.cells #[.int .i64 0, .int .u32 0, .bool false, .slice none 0 0, .slice none 0 0] 34) = w1 at H G R h hs K ⊢
  generalize hgR : w.heap.size + 1 + 1 = gR at H G R ⊢
  generalize hgG : w.heap.size + 1 = gG at H G R ⊢
  generalize hgH : w.heap.size = gH at H G R ⊢
  have H_b : w.heap.size ≤ gH := by omega
  have G_b : w.heap.size ≤ gG := by omega
  have R_b : w.heap.size ≤ gR := by omega
  have ne_H_G : gH ≠ gG := by omega
  have ne_H_R : gH ≠ gR := by omega
  have ne_G_R : gG ≠ gR := by omega
  clear KS hgH hgG hgR 
  have T := least_any (sh := sh) (wo := wo) (qu := qu) (tr := tr) ha hM h hn hs hm hr hb
  rw [show leO zs xs M = 0 by unfold leO; rw [hl], show leB zs xs M = false by unfold leB; rw [hl]] at T
  replace T := Lib.hid T
  replace hb := Lib.hid hb
  have H_0 := H.at_ (v := .int .u32 (a : Int)) 0 rfl
  have H_1 := H.at_ (v := .int .i64 p) 1 rfl
  have H_2 := H.at_ (v := .slice A n c) 2 rfl
  have H_3 := H.at_ (v := .int .i64 sh) 3 rfl
  have H_4 := H.at_ (v := .int .i64 wo) 4 rfl
  have H_5 := H.at_ (v := .int .i64 qu) 5 rfl
  have H_6 := H.at_ (v := .int .i64 tr) 6 rfl
  have H_z := H.lt
  go_wp2_with fail
  refine (T.out).mono ?_
  rintro e w2 ⟨rfl, K'⟩
  clear H_0 H_1 H_2 H_3 H_4 H_5 H_6 H_z
  replace H := H.below K'
  replace G := G.below K'
  replace R := R.below K'
  replace h := h.below K'
  replace hs := hs.below K'
  replace K := Below.then_ K K'
  clear K'
  clear T
  go_wp2_with (refine wpList_store_row rfl 34 (.tmp 7) (.tmp 19) rfl gR _ rfl (show _ = Value.agg #[.int .i64 9, .int .u32 0, .bool false, .slice none 0 0, .slice none 0 0] from rfl) _ _ R an_sz rfl (by simp [Value.oneCell']) ?_)
  replace H := H.row_far ne_H_R #[.int .i64 9, .int .u32 0, .bool false, .slice none 0 0, .slice none 0 0]
  replace G := G.row_far ne_G_R #[.int .i64 9, .int .u32 0, .bool false, .slice none 0 0, .slice none 0 0]
  replace R := R.row #[.int .i64 9, .int .u32 0, .bool false, .slice none 0 0, .slice none 0 0]
  replace K := below_setRow K R_b #[.int .i64 9, .int .u32 0, .bool false, .slice none 0 0, .slice none 0 0]
  replace h := h0.below K
  replace hs := hs0.below K
  generalize w2.setRow gR #[.int .i64 9, .int .u32 0, .bool false, .slice none 0 0, .slice none 0 0] = w3 at H G R h hs K ⊢
  refine bodyPost_ret (v := .tuple #[.slice B m d, .agg #[.int .i64 9, .int .u32 0, .bool false, .slice none 0 0, .slice none 0 0]]) ?_ rfl ?_
  · exact results_tc (fn := Tryd.f49) Tryd.results49 _ _ gR _ _ (0, 0) _ rfl R Tryd.underlying34 rfl an_sz
  exact ⟨_, _, _, _, _, _, _, _, _, rfl, hs.lower (Nat.zero_le _), (fun _ _ h => h), IS.none_ _ _ _, IS.none_ _ _ _, K⟩
theorem grant_any (ha : a < 4294967296) (hM : Much a p M) (h0 : IS .i64 lo w A n c zs) (hn : n ≤ 65536) (hs0 : IS .i64 lo2 w B m d xs) (hm : m ≤ 60000) (hr : Ris xs) (hX : X < 4294967296) (hb : ∀ x ∈ xs, 0 ≤ x) :
    Calls Tryd.prog 49 #[.agg #[.int .u32 (a : Int), .int .i64 p, .slice A n c, .int .i64 sh, .int .i64 wo, .int .i64 qu, .int .i64 tr], .slice B m d, .agg #[.int .i64 k, .int .u32 (X : Int), .slice C q f]] w (RetSA B m (doS a M zs xs 1 X ys).1 (doS a M zs xs 1 X ys).2 w) := by
  rw [doS_1]
  cases hl : lea zs xs M with
  | some o => exact grant_yes ha hM h0 hn hs0 hm hr hX hb hl
  | none => exact grant_no ha hM h0 hn hs0 hm hr hX hb hl
end
end Go.Proofs.YtmakbmmnjbnfiaaDoor
