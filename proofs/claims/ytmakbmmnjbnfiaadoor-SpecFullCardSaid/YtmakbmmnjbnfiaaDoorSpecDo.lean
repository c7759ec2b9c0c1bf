/-
  What a right request of each kind comes to, by the program: the set then, and the answer; nothing that was there is otherwise. Conditions: a block that may be; rising sets of at most 60000 numbers.
-/
import Derived.Test.YtmakbmmnjbnfiaaDoorSpecLib
namespace Go.Proofs.YtmakbmmnjbnfiaaDoor
open Go.RowKit
set_option linter.unusedVariables false
section
variable {w : World} {lo lo2 lo3 a M m d q f X : Nat} {p sh wo qu tr k : Int} {A B C : Option Addr} {n c : Nat} {zs xs ys : List Int}
set_option maxRecDepth 100000 in
set_option maxHeartbeats 4000000 in
theorem soffset_any (hX : X < 4294967296) (ha : a < 4294967296) (hM : Much a p M) :
    Calls Tryd.prog 60 #[.agg #[.int .u32 (a : Int), .int .i64 p, .slice A n c, .int .i64 sh, .int .i64 wo, .int .i64 qu, .int .i64 tr], .agg #[.int .i64 k, .int .u32 (X : Int), .slice C q f]] w fun e w' => e = .returned (.int .i64 (ofO a M X)) ∧ Below w.heap.size w w' := by
  have K := Below.refl w.heap.size w
  go_enter Tryd.func60, Tryd.ntmps60
  go_upto_region 1 with (fail)
  have KS := K.size
  replace K := Below.then_ K (below_alloc _ (.cells #[.int .u32 (a : Int), .int .i64 p, .slice A n c, .int .i64 sh, .int .i64 wo, .int .i64 qu, .int .i64 tr] 27))
  have H := Bk.new (w) #[.int .u32 (a : Int), .int .i64 p, .slice A n c, .int .i64 sh, .int .i64 wo, .int .i64 qu, .int .i64 tr] 27
  replace H := H.alloc (.cells #[.int .i64 k, .int .u32 (X : Int), .slice C q f] 30)
  replace K := Below.then_ K (below_alloc _ (.cells #[.int .i64 k, .int .u32 (X : Int), .slice C q f] 30))
  have G := Bk.new ((w).alloc (.cells #[.int .u32 (a : Int), .int .i64 p, .slice A n c, .int .i64 sh, .int .i64 wo, .int .i64 qu, .int .i64 tr] 27)) #[.int .i64 k, .int .u32 (X : Int), .slice C q f] 30
  try simp only [World.size_alloc] at H G
  generalize ((w).alloc (.cells #[.int .u32 (a : Int), .int .i64 p, .slice A n c, .int .i64 sh, .int .i64 wo, .int .i64 qu, .int .i64 tr] 27)).alloc (.cells #[.int .i64 k, .int .u32 (X : Int), .slice C q f] 30) = w1 at H G K ⊢
  generalize hgG : w.heap.size + 1 = gG at H G ⊢
  generalize hgH : w.heap.size = gH at H G ⊢
  have H_b : w.heap.size ≤ gH := by omega
  have G_b : w.heap.size ≤ gG := by omega
  have ne_H_G : gH ≠ gG := by omega
  clear KS hgH hgG 
  have H_0 := H.at_ (v := .int .u32 (a : Int)) 0 rfl
  have H_1 := H.at_ (v := .int .i64 p) 1 rfl
  have H_2 := H.at_ (v := .slice A n c) 2 rfl
  have H_3 := H.at_ (v := .int .i64 sh) 3 rfl
  have H_4 := H.at_ (v := .int .i64 wo) 4 rfl
  have H_5 := H.at_ (v := .int .i64 qu) 5 rfl
  have H_6 := H.at_ (v := .int .i64 tr) 6 rfl
  have H_z := H.lt
  have G_0 := G.at_ (v := .int .i64 k) 0 rfl
  have G_1 := G.at_ (v := .int .u32 (X : Int)) 1 rfl
  have G_2 := G.at_ (v := .slice C q f) 2 rfl
  have G_z := G.lt
  go_wp2_with fail
  refine (offset_any X hX ha hM).mono ?_
  rintro e w2 ⟨rfl, K'⟩
  clear H_0 H_1 H_2 H_3 H_4 H_5 H_6 H_z
  clear G_0 G_1 G_2 G_z
  replace H := H.below K'
  replace G := G.below K'
  replace K := Below.then_ K K'
  clear K'
  go_wp2
  go_ret
  exact ⟨rfl, K⟩
theorem soffset_is {v : Int} (hX : X < 4294967296) (ha : a < 4294967296) (hM : Much a p M) (hv : ofO a M X = v) :
    Calls Tryd.prog 60 #[.agg #[.int .u32 (a : Int), .int .i64 p, .slice A n c, .int .i64 sh, .int .i64 wo, .int .i64 qu, .int .i64 tr], .agg #[.int .i64 k, .int .u32 (X : Int), .slice C q f]] w fun e w' => e = .returned (.int .i64 v) ∧ Below w.heap.size w w' := by
  subst hv; exact soffset_any hX ha hM
set_option maxRecDepth 100000 in
set_option maxHeartbeats 4000000 in
theorem exact_in (ha : a < 4294967296) (hM : Much a p M) (h0 : IS .i64 lo w A n c zs) (hn : n ≤ 65536) (hs0 : IS .i64 lo2 w B m d xs) (hm : m ≤ 60000) (hr : Ris xs) (hX : X < 4294967296) {v : Int} (hv : ofO a M X = v) (hx : hasB xs v = true) :
    Calls Tryd.prog 50 #[.agg #[.int .u32 (a : Int), .int .i64 p, .slice A n c, .int .i64 sh, .int .i64 wo, .int .i64 qu, .int .i64 tr], .slice B m d, .agg #[.int .i64 k, .int .u32 (X : Int), .slice C q f]] w (RetSA B m xs (an0 5) w) := by
  have hs := hs0
  have K := Below.refl w.heap.size w
  go_enter Tryd.func50, Tryd.ntmps50
  go_upto_region 1 with (fail)
  have KS := K.size
  replace hs := hs.below (below_alloc _ (.cells #[.int .u32 (a : Int), .int .i64 p, .slice A n c, .int .i64 sh, .int .i64 wo, .int .i64 qu, .int .i64 tr] 27))
  replace K := Below.then_ K (below_alloc _ (.cells #[.int .u32 (a : Int), .int .i64 p, .slice A n c, .int .i64 sh, .int .i64 wo, .int .i64 qu, .int .i64 tr] 27))
  have H := Bk.new (w) #[.int .u32 (a : Int), .int .i64 p, .slice A n c, .int .i64 sh, .int .i64 wo, .int .i64 qu, .int .i64 tr] 27
  replace H := H.alloc (.cells #[.int .i64 k, .int .u32 (X : Int), .slice C q f] 30)
  replace hs := hs.below (below_alloc _ (.cells #[.int .i64 k, .int .u32 (X : Int), .slice C q f] 30))
  replace K := Below.then_ K (below_alloc _ (.cells #[.int .i64 k, .int .u32 (X : Int), .slice C q f] 30))
  have G := Bk.new ((w).alloc (.cells #[.int .u32 (a : Int), .int .i64 p, .slice A n c, .int .i64 sh, .int .i64 wo, .int .i64 qu, .int .i64 tr] 27)) #[.int .i64 k, .int .u32 (X : Int), .slice C q f] 30
  replace H := H.alloc (.cells #[.int .i64 0, .int .u32 0, .bool false, .slice none 0 0, .slice none 0 0] 34)
  replace G := G.alloc (.cells #[.int .i64 0, .int .u32 0, .bool false, .slice none 0 0, .slice none 0 0] 34)
  replace hs := hs.below (below_alloc _ (.cells #[.int .i64 0, .int .u32 0, .bool false, .slice none 0 0, .slice none 0 0] 34))
  replace K := Below.then_ K (below_alloc _ (.cells #[.int .i64 0, .int .u32 0, .bool false, .slice none 0 0, .slice none 0 0] 34))
  have R := Bk.new (((w).alloc (.cells #[.int .u32 (a : Int), .int .i64 p, .slice A n c, .int .i64 sh, .int .i64 wo, .int .i64 qu, .int .i64 tr] 27)).alloc (.cells #[.int .i64 k, .int .u32 (X : Int), .slice C q f] 30)) #[.int .i64 0, .int .u32 0, .bool false, .slice none 0 0, .slice none 0 0] 34
  try simp only [World.size_alloc] at H G R
  generalize (((w).alloc (.cells #[.int .u32 (a : Int), .int .i64 p, .slice A n c, .int .i64 sh, .int .i64 wo, .int .i64 qu, .int .i64 tr] 27)).alloc (.cells #[.int .i64 k, .int .u32 (X : Int), .slice C q f] 30)).alloc (.cells #[.int .i64 0, .int .u32 0, .bool false, .slice none 0 0, .slice none 0 0] 34) = w1 at H G R hs K ⊢
  generalize hgR : w.heap.size + 1 + 1 = gR at H G R ⊢
  generalize hgG : w.heap.size + 1 = gG at H G R ⊢
  generalize hgH : w.heap.size = gH at H G R ⊢
  have H_b : w.heap.size ≤ gH := by omega
  have G_b : w.heap.size ≤ gG := by omega
  have R_b : w.heap.size ≤ gR := by omega
  have ne_H_G : gH ≠ gG := by omega
  have ne_H_R : gH ≠ gR := by omega
  have ne_G_R : gG ≠ gR := by omega
  clear KS hgH hgG hgR 
  have H_0 := H.at_ (v := .int .u32 (a : Int)) 0 rfl
  have H_1 := H.at_ (v := .int .i64 p) 1 rfl
  have H_2 := H.at_ (v := .slice A n c) 2 rfl
  have H_3 := H.at_ (v := .int .i64 sh) 3 rfl
  have H_4 := H.at_ (v := .int .i64 wo) 4 rfl
  have H_5 := H.at_ (v := .int .i64 qu) 5 rfl
  have H_6 := H.at_ (v := .int .i64 tr) 6 rfl
  have H_z := H.lt
  have G_0 := G.at_ (v := .int .i64 k) 0 rfl
  have G_1 := G.at_ (v := .int .u32 (X : Int)) 1 rfl
  have G_2 := G.at_ (v := .slice C q f) 2 rfl
  have G_z := G.lt
  go_wp2_with fail
  refine (soffset_is hX ha hM hv).mono ?_
  rintro e w2 ⟨rfl, K'⟩
  clear H_0 H_1 H_2 H_3 H_4 H_5 H_6 H_z
  clear G_0 G_1 G_2 G_z
  replace H := H.below K'
  replace G := G.below K'
  replace R := R.below K'
  replace hs := hs.below K'
  replace K := Below.then_ K K'
  clear K'
  have T := mhas_any hs (by omega) hr v
  rw [hx] at T
  replace T := Lib.hid T
  go_wp2_with fail
  refine T.out.mono ?_
  rintro e _ ⟨rfl, rfl⟩
  clear T
  go_wp2_with (refine wpList_store_row rfl 34 (.tmp 7) (.tmp 16) rfl gR _ rfl (show _ = Value.agg #[.int .i64 5, .int .u32 0, .bool false, .slice none 0 0, .slice none 0 0] from rfl) _ _ R an_sz rfl (by simp [Value.oneCell']) ?_)
  replace H := H.row_far ne_H_R #[.int .i64 5, .int .u32 0, .bool false, .slice none 0 0, .slice none 0 0]
  replace G := G.row_far ne_G_R #[.int .i64 5, .int .u32 0, .bool false, .slice none 0 0, .slice none 0 0]
  replace R := R.row #[.int .i64 5, .int .u32 0, .bool false, .slice none 0 0, .slice none 0 0]
  replace K := below_setRow K R_b #[.int .i64 5, .int .u32 0, .bool false, .slice none 0 0, .slice none 0 0]
  replace hs := hs0.below K
  generalize w2.setRow gR #[.int .i64 5, .int .u32 0, .bool false, .slice none 0 0, .slice none 0 0] = w3 at H G R hs K ⊢
  refine bodyPost_ret (v := .tuple #[.slice B m d, .agg #[.int .i64 5, .int .u32 0, .bool false, .slice none 0 0, .slice none 0 0]]) ?_ rfl ?_
  · exact results_tc (fn := Tryd.f50) Tryd.results50 _ _ gR _ _ (0, 0) _ rfl R Tryd.underlying34 rfl an_sz
  exact ⟨_, _, _, _, _, _, _, _, _, rfl, hs.lower (Nat.zero_le _), (fun _ _ h => h), IS.none_ _ _ _, IS.none_ _ _ _, K⟩
set_option maxRecDepth 100000 in
set_option maxHeartbeats 4000000 in
theorem exact_out (ha : a < 4294967296) (hM : Much a p M) (h0 : IS .i64 lo w A n c zs) (hn : n ≤ 65536) (hs0 : IS .i64 lo2 w B m d xs) (hm : m ≤ 60000) (hr : Ris xs) (hX : X < 4294967296) {v : Int} (hv : ofO a M X = v) (hx : hasB xs v = false) :
    Calls Tryd.prog 50 #[.agg #[.int .u32 (a : Int), .int .i64 p, .slice A n c, .int .i64 sh, .int .i64 wo, .int .i64 qu, .int .i64 tr], .slice B m d, .agg #[.int .i64 k, .int .u32 (X : Int), .slice C q f]] w (RetSA B m (ins xs v) (okA (X : Int)) w) := by
  have hs := hs0
  have K := Below.refl w.heap.size w
  go_enter Tryd.func50, Tryd.ntmps50
  go_upto_region 1 with (fail)
  have KS := K.size
  replace hs := hs.below (below_alloc _ (.cells #[.int .u32 (a : Int), .int .i64 p, .slice A n c, .int .i64 sh, .int .i64 wo, .int .i64 qu, .int .i64 tr] 27))
  replace K := Below.then_ K (below_alloc _ (.cells #[.int .u32 (a : Int), .int .i64 p, .slice A n c, .int .i64 sh, .int .i64 wo, .int .i64 qu, .int .i64 tr] 27))
  have H := Bk.new (w) #[.int .u32 (a : Int), .int .i64 p, .slice A n c, .int .i64 sh, .int .i64 wo, .int .i64 qu, .int .i64 tr] 27
  replace H := H.alloc (.cells #[.int .i64 k, .int .u32 (X : Int), .slice C q f] 30)
  replace hs := hs.below (below_alloc _ (.cells #[.int .i64 k, .int .u32 (X : Int), .slice C q f] 30))
  replace K := Below.then_ K (below_alloc _ (.cells #[.int .i64 k, .int .u32 (X : Int), .slice C q f] 30))
  have G := Bk.new ((w).alloc (.cells #[.int .u32 (a : Int), .int .i64 p, .slice A n c, .int .i64 sh, .int .i64 wo, .int .i64 qu, .int .i64 tr] 27)) #[.int .i64 k, .int .u32 (X : Int), .slice C q f] 30
  replace H := H.alloc (.cells #[.int .i64 0, .int .u32 0, .bool false, .slice none 0 0, .slice none 0 0] 34)
  replace G := G.alloc (.cells #[.int .i64 0, .int .u32 0, .bool false, .slice none 0 0, .slice none 0 0] 34)
  replace hs := hs.below (below_alloc _ (.cells #[.int .i64 0, .int .u32 0, .bool false, .slice none 0 0, .slice none 0 0] 34))
  replace K := Below.then_ K (below_alloc _ (.cells #[.int .i64 0, .int .u32 0, .bool false, .slice none 0 0, .slice none 0 0] 34))
  have R := Bk.new (((w).alloc (.cells #[.int .u32 (a : Int), .int .i64 p, .slice A n c, .int .i64 sh, .int .i64 wo, .int .i64 qu, .int .i64 tr] 27)).alloc (.cells #[.int .i64 k, .int .u32 (X : Int), .slice C q f] 30)) #[.int .i64 0, .int .u32 0, .bool false, .slice none 0 0, .slice none 0 0] 34
  try simp only [World.size_alloc] at H G R
  generalize (((w).alloc (.cells #[.int .u32 (a : Int), .int .i64 p, .slice A n c, .int .i64 sh, .int .i64 wo, .int .i64 qu, .int .i64 tr] 27)).alloc (.cells #[.int .i64 k, .int .u32 (X : Int), .slice C q f] 30)).alloc (.cells #[.int .i64 0, .int .u32 0, .bool false, .slice none 0 0, .slice none 0 0] 34) = w1 at H G R hs K ⊢
  generalize hgR : w.heap.size + 1 + 1 = gR at H G R ⊢
  generalize hgG : w.heap.size + 1 = gG at H G R ⊢
  generalize hgH : w.heap.size = gH at H G R ⊢
  have H_b : w.heap.size ≤ gH := by omega
  have G_b : w.heap.size ≤ gG := by omega
  have R_b : w.heap.size ≤ gR := by omega
  have ne_H_G : gH ≠ gG := by omega
  have ne_H_R : gH ≠ gR := by omega
  have ne_G_R : gG ≠ gR := by omega
  clear KS hgH hgG hgR 
  have H_0 := H.at_ (v := .int .u32 (a : Int)) 0 rfl
  have H_1 := H.at_ (v := .int .i64 p) 1 rfl
  have H_2 := H.at_ (v := .slice A n c) 2 rfl
  have H_3 := H.at_ (v := .int .i64 sh) 3 rfl
  have H_4 := H.at_ (v := .int .i64 wo) 4 rfl
  have H_5 := H.at_ (v := .int .i64 qu) 5 rfl
  have H_6 := H.at_ (v := .int .i64 tr) 6 rfl
  have H_z := H.lt
  have G_0 := G.at_ (v := .int .i64 k) 0 rfl
  have G_1 := G.at_ (v := .int .u32 (X : Int)) 1 rfl
  have G_2 := G.at_ (v := .slice C q f) 2 rfl
  have G_z := G.lt
  go_wp2_with fail
  refine (soffset_is hX ha hM hv).mono ?_
  rintro e w2 ⟨rfl, K'⟩
  clear H_0 H_1 H_2 H_3 H_4 H_5 H_6 H_z
  clear G_0 G_1 G_2 G_z
  replace H := H.below K'
  replace G := G.below K'
  replace R := R.below K'
  replace hs := hs.below K'
  replace K := Below.then_ K K'
  clear K'
  have T := mhas_any hs (by omega) hr v
  rw [hx] at T
  replace T := Lib.hid T
  go_wp2_with fail
  refine T.out.mono ?_
  rintro e _ ⟨rfl, rfl⟩
  clear T
  go_wp2
  refine wp_region_held_drew (S := fun w' => Below w.heap.size w w' ∧ Bk w' gH 27 #[.int .u32 (a : Int), .int .i64 p, .slice A n c, .int .i64 sh, .int .i64 wo, .int .i64 qu, .int .i64 tr] ∧ Bk w' gG 30 #[.int .i64 k, .int .u32 (X : Int), .slice C q f] ∧ (∃ v : Array Value, v.size = 5 ∧ Bk w' gR 34 v) ∧ True) (by kernel_rfl) ⟨K.drew, H.below ((Below.refl _ _).drew), G.below ((Below.refl _ _).drew), ⟨_, rfl, R.below ((Below.refl _ _).drew)⟩, trivial⟩ (fun hHeld => ?_)
  generalize w2.drew = v3 at hHeld  ⊢
  refine wpAnyH_take (i := 0) (oi := ⟨some 17, _, _, _, _, _⟩) (v := ?_) rfl (by kernel_rfl) (by kernel_rfl) (by kernel_rfl) (fun _ _ _ h => h) (Or.inl ⟨by rfl, ?_⟩) hHeld ?_
  rotate_left
  · intro ww hSw
    try dsimp only at hSw
    go_simp
    try with_reducible rfl
    try omega
  try simp only [Act.put, List.setIfInBounds_toArray, List.set_cons_zero, List.set_cons_succ]
  refine wpAnyH_take (i := 1) (oi := ⟨some 18, _, _, _, _, _⟩) (v := ?_) rfl (by kernel_rfl) (by kernel_rfl) (by kernel_rfl) (fun _ _ _ h => h) (Or.inl ⟨by rfl, ?_⟩) hHeld ?_
  rotate_left
  · intro ww hSw
    try dsimp only at hSw
    go_simp
    try with_reducible rfl
    try omega
  try simp only [Act.put, List.setIfInBounds_toArray, List.set_cons_zero, List.set_cons_succ]
  refine wpAnyH_take (i := 3) (oi := ⟨some 20, _, _, _, _, _⟩) (v := ?_) rfl (by kernel_rfl) (by kernel_rfl) (by kernel_rfl) (fun _ _ _ h => h) (Or.inl ⟨by rfl, ?_⟩) hHeld ?_
  rotate_left
  · intro ww hSw
    try dsimp only at hSw
    go_simp
    try with_reducible rfl
    try omega
  try simp only [Act.put, List.setIfInBounds_toArray, List.set_cons_zero, List.set_cons_succ]
  refine wpAnyH_take (i := 4) (oi := ⟨some 21, _, _, _, _, _⟩) (v := ?_) rfl (by kernel_rfl) (by kernel_rfl) (by kernel_rfl) (fun _ _ _ h => h) (Or.inl ⟨by rfl, ?_⟩) hHeld ?_
  rotate_left
  · intro ww hSw
    try dsimp only at hSw
    have G_0 := (hSw.2.2.1).at_ (v := .int .i64 k) 0 rfl
    have G_1 := (hSw.2.2.1).at_ (v := .int .u32 (X : Int)) 1 rfl
    have G_2 := (hSw.2.2.1).at_ (v := .slice C q f) 2 rfl
    have G_z := (hSw.2.2.1).lt
    go_simp
    try with_reducible rfl
    try omega
  try simp only [Act.put, List.setIfInBounds_toArray, List.set_cons_zero, List.set_cons_succ]
  refine wpAnyH_take (i := 5) (oi := ⟨some 22, _, _, _, _, _⟩) (v := ?_) rfl (by kernel_rfl) (by kernel_rfl) (by kernel_rfl) (fun _ _ _ h => h) (Or.inl ⟨by rfl, ?_⟩) hHeld ?_
  rotate_left
  · intro ww hSw
    try dsimp only at hSw
    go_simp
    try with_reducible rfl
    try omega
  try simp only [Act.put, List.setIfInBounds_toArray, List.set_cons_zero, List.set_cons_succ]
  refine wpAnyH_ready (rs := [2]) (by kernel_rfl) (by simp) ?_
  refine AllReadyH.cons (o := ⟨some 19, _, _, _, _, _⟩) rfl (fun K0 hK => ?_) AllReadyH.nil
  go_simp
  refine (mwith_new (hs0.below hHeld.1) (by omega) hr v hx).mono ?_
  have H_l := (hHeld.2.1).lt
  have G_l := (hHeld.2.2.1).lt
  have R_l := (hHeld.2.2.2.1.choose_spec.2).lt
  rintro e v4 ⟨IA, In, Ic, rfl, I, K'⟩
  have I_old : ∀ g, g < w.heap.size → Av g IA In := fun g hg => I.av (Nat.lt_of_lt_of_le hg (Below.size hHeld.1))
  have I_R := I.av R_l
  replace I := I.lower (Nat.zero_le _)
  refine hK.out _ _ ⟨Below.then_ hHeld.1 K', hHeld.2.1.below K', hHeld.2.2.1.below K', ⟨_, hHeld.2.2.2.1.choose_spec.1, hHeld.2.2.2.1.choose_spec.2.below K'⟩, trivial⟩ (fun hHeld' => ?_)
  clear hHeld K' hK K0
  clear H_l G_l R_l
  have hHeld := hHeld'
  clear hHeld'
  try simp only [Act.put, List.setIfInBounds_toArray, List.set_cons_zero, List.set_cons_succ]
  refine wpAnyH_take (i := 6) (oi := ⟨some 6, _, _, _, _, _⟩) (v := ?_) rfl (by kernel_rfl) (by kernel_rfl) (by kernel_rfl) (fun _ _ _ h => h) (Or.inl ⟨by rfl, ?_⟩) hHeld ?_
  rotate_left
  · intro ww hSw
    try dsimp only at hSw
    go_simp
    try with_reducible rfl
    try omega
  try simp only [Act.put, List.setIfInBounds_toArray, List.set_cons_zero, List.set_cons_succ]
  refine wpAnyH_ready (rs := [7]) (by kernel_rfl) (by simp) ?_
  refine AllReadyH.cons (o := ⟨none, _, _, _, _, _⟩) rfl (fun K0 hK => ?_) AllReadyH.nil
  rw [if_pos (by rfl)]
  refine wp_store_row 34 (.tmp 7) (.tmp 22) rfl gR _ rfl (show _ = Value.agg #[.int .i64 0, .int .u32 (X : Int), .bool false, .slice none 0 0, .slice none 0 0] from rfl) _ _ hHeld.2.2.2.1.choose_spec.2 an_sz hHeld.2.2.2.1.choose_spec.1 (by simp [Value.oneCell']) ?_
  have new_R := Bk.row hHeld.2.2.2.1.choose_spec.2 #[.int .i64 0, .int .u32 (X : Int), .bool false, .slice none 0 0, .slice none 0 0]
  refine hK.out _ _ ⟨below_setRow hHeld.1 R_b _, hHeld.2.1.row_far ne_H_R _, hHeld.2.2.1.row_far ne_G_R _, ⟨_, rfl, new_R⟩, trivial⟩ (fun hHeld' => ?_)
  replace I := I.row_av I_R #[.int .i64 0, .int .u32 (X : Int), .bool false, .slice none 0 0, .slice none 0 0]
  clear hHeld hK K0
  have hHeld := hHeld'
  clear hHeld'
  generalize v4.setRow gR #[.int .i64 0, .int .u32 (X : Int), .bool false, .slice none 0 0, .slice none 0 0] = v5 at hHeld new_R I ⊢
  try simp only [Act.put]
  refine wpAnyH_done (by kernel_rfl) ?_ _
  replace K := hHeld.1
  replace H := hHeld.2.1
  replace G := hHeld.2.2.1
  replace R := new_R
  clear new_R
  clear hHeld
  replace hs := hs0.below K
  go_wp2
  refine bodyPost_ret (v := .tuple #[.slice IA In Ic, .agg #[.int .i64 0, .int .u32 (X : Int), .bool false, .slice none 0 0, .slice none 0 0]]) ?_ rfl ?_
  · exact results_tc (fn := Tryd.f50) Tryd.results50 _ _ gR _ _ (0, 0) _ rfl R Tryd.underlying34 rfl an_sz
  exact ⟨_, _, _, _, _, _, _, _, _, rfl, I, (fun g hg _ => I_old g hg), IS.none_ _ _ _, IS.none_ _ _ _, K⟩
set_option maxRecDepth 100000 in
set_option maxHeartbeats 4000000 in
theorem release_out (ha : a < 4294967296) (hM : Much a p M) (h0 : IS .i64 lo w A n c zs) (hn : n ≤ 65536) (hs0 : IS .i64 lo2 w B m d xs) (hm : m ≤ 60000) (hr : Ris xs) (hX : X < 4294967296) {v : Int} (hv : ofO a M X = v) (hx : hasB xs v = false) :
    Calls Tryd.prog 51 #[.agg #[.int .u32 (a : Int), .int .i64 p, .slice A n c, .int .i64 sh, .int .i64 wo, .int .i64 qu, .int .i64 tr], .slice B m d, .agg #[.int .i64 k, .int .u32 (X : Int), .slice C q f]] w (RetSA B m xs (an0 6) w) := by
  have hs := hs0
  have K := Below.refl w.heap.size w
  go_enter Tryd.func51, Tryd.ntmps51
  go_upto_region 1 with (fail)
  have KS := K.size
  replace hs := hs.below (below_alloc _ (.cells #[.int .u32 (a : Int), .int .i64 p, .slice A n c, .int .i64 sh, .int .i64 wo, .int .i64 qu, .int .i64 tr] 27))
  replace K := Below.then_ K (below_alloc _ (.cells #[.int .u32 (a : Int), .int .i64 p, .slice A n c, .int .i64 sh, .int .i64 wo, .int .i64 qu, .int .i64 tr] 27))
  have H := Bk.new (w) #[.int .u32 (a : Int), .int .i64 p, .slice A n c, .int .i64 sh, .int .i64 wo, .int .i64 qu, .int .i64 tr] 27
  replace H := H.alloc (.cells #[.int .i64 k, .int .u32 (X : Int), .slice C q f] 30)
  replace hs := hs.below (below_alloc _ (.cells #[.int .i64 k, .int .u32 (X : Int), .slice C q f] 30))
  replace K := Below.then_ K (below_alloc _ (.cells #[.int .i64 k, .int .u32 (X : Int), .slice C q f] 30))
  have G := Bk.new ((w).alloc (.cells #[.int .u32 (a : Int), .int .i64 p, .slice A n c, .int .i64 sh, .int .i64 wo, .int .i64 qu, .int .i64 tr] 27)) #[.int .i64 k, .int .u32 (X : Int), .slice C q f] 30
  replace H := H.alloc (.cells #[.int .i64 0, .int .u32 0, .bool false, .slice none 0 0, .slice none 0 0] 34)
  replace G := G.alloc (.cells #[.int .i64 0, .int .u32 0, .bool false, .slice none 0 0, .slice none 0 0] 34)
  replace hs := hs.below (below_alloc _ (.cells #[.int .i64 0, .int .u32 0, .bool false, .slice none 0 0, .slice none 0 0] 34))
  replace K := Below.then_ K (below_alloc _ (.cells #[.int .i64 0, .int .u32 0, .bool false, .slice none 0 0, .slice none 0 0] 34))
  have R := Bk.new (((w).alloc (.cells #[.int .u32 (a : Int), .int .i64 p, .slice A n c, .int .i64 sh, .int .i64 wo, .int .i64 qu, .int .i64 tr] 27)).alloc (.cells #[.int .i64 k, .int .u32 (X : Int), .slice C q f] 30)) #[.int .i64 0, .int .u32 0, .bool false, .slice none 0 0, .slice none 0 0] 34
  try simp only [World.size_alloc] at H G R
  generalize (((w).alloc (.cells #[.int .u32 (a : Int), .int .i64 p, .slice A n c, .int .i64 sh, .int .i64 wo, .int .i64 qu, .int .i64 tr] 27)).alloc (.cells #[.int .i64 k, .int .u32 (X : Int), .slice C q f] 30)).alloc (.cells #[.int .i64 0, .int .u32 0, .bool false, .slice none 0 0, .slice none 0 0] 34) = w1 at H G R hs K ⊢
  generalize hgR : w.heap.size + 1 + 1 = gR at H G R ⊢
  generalize hgG : w.heap.size + 1 = gG at H G R ⊢
  generalize hgH : w.heap.size = gH at H G R ⊢
  have H_b : w.heap.size ≤ gH := by omega
  have G_b : w.heap.size ≤ gG := by omega
  have R_b : w.heap.size ≤ gR := by omega
  have ne_H_G : gH ≠ gG := by omega
  have ne_H_R : gH ≠ gR := by omega
  have ne_G_R : gG ≠ gR := by omega
  clear KS hgH hgG hgR 
  have H_0 := H.at_ (v := .int .u32 (a : Int)) 0 rfl
  have H_1 := H.at_ (v := .int .i64 p) 1 rfl
  have H_2 := H.at_ (v := .slice A n c) 2 rfl
  have H_3 := H.at_ (v := .int .i64 sh) 3 rfl
  have H_4 := H.at_ (v := .int .i64 wo) 4 rfl
  have H_5 := H.at_ (v := .int .i64 qu) 5 rfl
  have H_6 := H.at_ (v := .int .i64 tr) 6 rfl
  have H_z := H.lt
  have G_0 := G.at_ (v := .int .i64 k) 0 rfl
  have G_1 := G.at_ (v := .int .u32 (X : Int)) 1 rfl
  have G_2 := G.at_ (v := .slice C q f) 2 rfl
  have G_z := G.lt
  go_wp2_with fail
  refine (soffset_is hX ha hM hv).mono ?_
  rintro e w2 ⟨rfl, K'⟩
  clear H_0 H_1 H_2 H_3 H_4 H_5 H_6 H_z
  clear G_0 G_1 G_2 G_z
  replace H := H.below K'
  replace G := G.below K'
  replace R := R.below K'
  replace hs := hs.below K'
  replace K := Below.then_ K K'
  clear K'
  have T := mhas_any hs (by omega) hr v
  rw [hx] at T
  replace T := Lib.hid T
  go_wp2_with fail
  refine T.out.mono ?_
  rintro e _ ⟨rfl, rfl⟩
  clear T
  go_wp2_with (refine wpList_store_row rfl 34 (.tmp 7) (.tmp 17) rfl gR _ rfl (show _ = Value.agg #[.int .i64 6, .int .u32 0, .bool false, .slice none 0 0, .slice none 0 0] from rfl) _ _ R an_sz rfl (by simp [Value.oneCell']) ?_)
  replace H := H.row_far ne_H_R #[.int .i64 6, .int .u32 0, .bool false, .slice none 0 0, .slice none 0 0]
  replace G := G.row_far ne_G_R #[.int .i64 6, .int .u32 0, .bool false, .slice none 0 0, .slice none 0 0]
  replace R := R.row #[.int .i64 6, .int .u32 0, .bool false, .slice none 0 0, .slice none 0 0]
  replace K := below_setRow K R_b #[.int .i64 6, .int .u32 0, .bool false, .slice none 0 0, .slice none 0 0]
  replace hs := hs0.below K
  generalize w2.setRow gR #[.int .i64 6, .int .u32 0, .bool false, .slice none 0 0, .slice none 0 0] = w3 at H G R hs K ⊢
  refine bodyPost_ret (v := .tuple #[.slice B m d, .agg #[.int .i64 6, .int .u32 0, .bool false, .slice none 0 0, .slice none 0 0]]) ?_ rfl ?_
  · exact results_tc (fn := Tryd.f51) Tryd.results51 _ _ gR _ _ (0, 0) _ rfl R Tryd.underlying34 rfl an_sz
  exact ⟨_, _, _, _, _, _, _, _, _, rfl, hs.lower (Nat.zero_le _), (fun _ _ h => h), IS.none_ _ _ _, IS.none_ _ _ _, K⟩
set_option maxRecDepth 100000 in
set_option maxHeartbeats 4000000 in
theorem release_in (ha : a < 4294967296) (hM : Much a p M) (h0 : IS .i64 lo w A n c zs) (hn : n ≤ 65536) (hs0 : IS .i64 lo2 w B m d xs) (hm : m ≤ 60000) (hr : Ris xs) (hX : X < 4294967296) {v : Int} (hv : ofO a M X = v) (hx : hasB xs v = true) :
    Calls Tryd.prog 51 #[.agg #[.int .u32 (a : Int), .int .i64 p, .slice A n c, .int .i64 sh, .int .i64 wo, .int .i64 qu, .int .i64 tr], .slice B m d, .agg #[.int .i64 k, .int .u32 (X : Int), .slice C q f]] w (RetSA B m (del xs v) (an0 0) w) := by
  have hs := hs0
  have K := Below.refl w.heap.size w
  go_enter Tryd.func51, Tryd.ntmps51
  go_upto_region 1 with (fail)
  have KS := K.size
  replace hs := hs.below (below_alloc _ (.cells #[.int .u32 (a : Int), .int .i64 p, .slice A n c, .int .i64 sh, .int .i64 wo, .int .i64 qu, .int .i64 tr] 27))
  replace K := Below.then_ K (below_alloc _ (.cells #[.int .u32 (a : Int), .int .i64 p, .slice A n c, .int .i64 sh, .int .i64 wo, .int .i64 qu, .int .i64 tr] 27))
  have H := Bk.new (w) #[.int .u32 (a : Int), .int .i64 p, .slice A n c, .int .i64 sh, .int .i64 wo, .int .i64 qu, .int .i64 tr] 27
  replace H := H.alloc (.cells #[.int .i64 k, .int .u32 (X : Int), .slice C q f] 30)
  replace hs := hs.below (below_alloc _ (.cells #[.int .i64 k, .int .u32 (X : Int), .slice C q f] 30))
  replace K := Below.then_ K (below_alloc _ (.cells #[.int .i64 k, .int .u32 (X : Int), .slice C q f] 30))
  have G := Bk.new ((w).alloc (.cells #[.int .u32 (a : Int), .int .i64 p, .slice A n c, .int .i64 sh, .int .i64 wo, .int .i64 qu, .int .i64 tr] 27)) #[.int .i64 k, .int .u32 (X : Int), .slice C q f] 30
  replace H := H.alloc (.cells #[.int .i64 0, .int .u32 0, .bool false, .slice none 0 0, .slice none 0 0] 34)
  replace G := G.alloc (.cells #[.int .i64 0, .int .u32 0, .bool false, .slice none 0 0, .slice none 0 0] 34)
  replace hs := hs.below (below_alloc _ (.cells #[.int .i64 0, .int .u32 0, .bool false, .slice none 0 0, .slice none 0 0] 34))
  replace K := Below.then_ K (below_alloc _ (.cells #[.int .i64 0, .int .u32 0, .bool false, .slice none 0 0, .slice none 0 0] 34))
  have R := Bk.new (((w).alloc (.cells #[.int .u32 (a : Int), .int .i64 p, .slice A n c, .int .i64 sh, .int .i64 wo, .int .i64 qu, .int .i64 tr] 27)).alloc (.cells #[.int .i64 k, .int .u32 (X : Int), .slice C q f] 30)) #[.int .i64 0, .int .u32 0, .bool false, .slice none 0 0, .slice none 0 0] 34
  try simp only [World.size_alloc] at H G R
  generalize (((w).alloc (.cells #[.int .u32 (a : Int), .int .i64 p, .slice A n c, .int .i64 sh, .int .i64 wo, .int .i64 qu, .int .i64 tr] 27)).alloc (.cells #[.int .i64 k, .int .u32 (X : Int), .slice C q f] 30)).alloc (.cells #[.int .i64 0, .int .u32 0, .bool false, .slice none 0 0, .slice none 0 0] 34) = w1 at H G R hs K ⊢
  generalize hgR : w.heap.size + 1 + 1 = gR at H G R ⊢
  generalize hgG : w.heap.size + 1 = gG at H G R ⊢
  generalize hgH : w.heap.size = gH at H G R ⊢
  have H_b : w.heap.size ≤ gH := by omega
  have G_b : w.heap.size ≤ gG := by omega
  have R_b : w.heap.size ≤ gR := by omega
  have ne_H_G : gH ≠ gG := by omega
  have ne_H_R : gH ≠ gR := by omega
  have ne_G_R : gG ≠ gR := by omega
  clear KS hgH hgG hgR 
  have H_0 := H.at_ (v := .int .u32 (a : Int)) 0 rfl
  have H_1 := H.at_ (v := .int .i64 p) 1 rfl
  have H_2 := H.at_ (v := .slice A n c) 2 rfl
  have H_3 := H.at_ (v := .int .i64 sh) 3 rfl
  have H_4 := H.at_ (v := .int .i64 wo) 4 rfl
  have H_5 := H.at_ (v := .int .i64 qu) 5 rfl
  have H_6 := H.at_ (v := .int .i64 tr) 6 rfl
  have H_z := H.lt
  have G_0 := G.at_ (v := .int .i64 k) 0 rfl
  have G_1 := G.at_ (v := .int .u32 (X : Int)) 1 rfl
  have G_2 := G.at_ (v := .slice C q f) 2 rfl
  have G_z := G.lt
  go_wp2_with fail
  refine (soffset_is hX ha hM hv).mono ?_
  rintro e w2 ⟨rfl, K'⟩
  clear H_0 H_1 H_2 H_3 H_4 H_5 H_6 H_z
  clear G_0 G_1 G_2 G_z
  replace H := H.below K'
  replace G := G.below K'
  replace R := R.below K'
  replace hs := hs.below K'
  replace K := Below.then_ K K'
  clear K'
  have T := mhas_any hs (by omega) hr v
  rw [hx] at T
  replace T := Lib.hid T
  go_wp2_with fail
  refine T.out.mono ?_
  rintro e _ ⟨rfl, rfl⟩
  clear T
  go_wp2_with fail
  refine (mwithout_new hs (by omega) hr v hx).mono ?_
  have H_l := H.lt
  have G_l := G.lt
  have R_l := R.lt
  rintro e w3 ⟨IA, In, Ic, rfl, I, K'⟩
  have I_H := I.av H_l
  have I_G := I.av G_l
  have I_R := I.av R_l
  clear H_l G_l R_l
  have I_old : ∀ g, g < w.heap.size → Av g IA In := fun g hg => I.av (Nat.lt_of_lt_of_le hg K.size)
  replace I := I.lower (Nat.zero_le _)
  replace H := H.below K'
  replace G := G.below K'
  replace R := R.below K'
  replace hs := hs.below K'
  replace K := Below.then_ K K'
  clear K'
  have G_0 := G.at_ (v := .int .i64 k) 0 rfl
  have G_1 := G.at_ (v := .int .u32 (X : Int)) 1 rfl
  have G_2 := G.at_ (v := .slice C q f) 2 rfl
  have G_z := G.lt
  go_wp2_with (refine wpList_store_row rfl 34 (.tmp 7) (.tmp 21) rfl gR _ rfl (show _ = Value.agg #[.int .i64 0, .int .u32 0, .bool false, .slice none 0 0, .slice none 0 0] from rfl) _ _ R an_sz rfl (by simp [Value.oneCell']) ?_)
  clear G_0 G_1 G_2 G_z
  replace H := H.row_far ne_H_R #[.int .i64 0, .int .u32 0, .bool false, .slice none 0 0, .slice none 0 0]
  replace G := G.row_far ne_G_R #[.int .i64 0, .int .u32 0, .bool false, .slice none 0 0, .slice none 0 0]
  replace R := R.row #[.int .i64 0, .int .u32 0, .bool false, .slice none 0 0, .slice none 0 0]
  replace I := I.row_av I_R #[.int .i64 0, .int .u32 0, .bool false, .slice none 0 0, .slice none 0 0]
  replace K := below_setRow K R_b #[.int .i64 0, .int .u32 0, .bool false, .slice none 0 0, .slice none 0 0]
  replace hs := hs0.below K
  generalize w3.setRow gR #[.int .i64 0, .int .u32 0, .bool false, .slice none 0 0, .slice none 0 0] = w4 at H G R hs I K ⊢
  refine bodyPost_ret (v := .tuple #[.slice IA In Ic, .agg #[.int .i64 0, .int .u32 0, .bool false, .slice none 0 0, .slice none 0 0]]) ?_ rfl ?_
  · exact results_tc (fn := Tryd.f51) Tryd.results51 _ _ gR _ _ (0, 0) _ rfl R Tryd.underlying34 rfl an_sz
  exact ⟨_, _, _, _, _, _, _, _, _, rfl, I, (fun g hg _ => I_old g hg), IS.none_ _ _ _, IS.none_ _ _ _, K⟩
theorem exact_any (ha : a < 4294967296) (hM : Much a p M) (h0 : IS .i64 lo w A n c zs) (hn : n ≤ 65536) (hs0 : IS .i64 lo2 w B m d xs) (hm : m ≤ 60000) (hr : Ris xs) (hX : X < 4294967296) :
    Calls Tryd.prog 50 #[.agg #[.int .u32 (a : Int), .int .i64 p, .slice A n c, .int .i64 sh, .int .i64 wo, .int .i64 qu, .int .i64 tr], .slice B m d, .agg #[.int .i64 k, .int .u32 (X : Int), .slice C q f]] w (RetSA B m (doS a M zs xs 2 X ys).1 (doS a M zs xs 2 X ys).2 w) := by
  rw [doS_2]
  cases hx : hasB xs (ofO a M X) with
  | true => simp only [if_true]; exact exact_in ha hM h0 hn hs0 hm hr hX rfl hx
  | false => simp only [Bool.false_eq_true, if_false]; exact exact_out ha hM h0 hn hs0 hm hr hX rfl hx
theorem release_is (ha : a < 4294967296) (hM : Much a p M) (h0 : IS .i64 lo w A n c zs) (hn : n ≤ 65536) (hs0 : IS .i64 lo2 w B m d xs) (hm : m ≤ 60000) (hr : Ris xs) (hX : X < 4294967296) {v : Int} (hv : ofO a M X = v) :
    Calls Tryd.prog 51 #[.agg #[.int .u32 (a : Int), .int .i64 p, .slice A n c, .int .i64 sh, .int .i64 wo, .int .i64 qu, .int .i64 tr], .slice B m d, .agg #[.int .i64 k, .int .u32 (X : Int), .slice C q f]] w (RetSA B m (del xs v) (an0 (reE xs v)) w) := by
  unfold reE
  cases hx : hasB xs v with
  | true => simp only [if_true]; exact release_in ha hM h0 hn hs0 hm hr hX hv hx
  | false => simp only [Bool.false_eq_true, if_false]; rw [del_out hr hx]; exact release_out ha hM h0 hn hs0 hm hr hX hv hx
theorem release_any (ha : a < 4294967296) (hM : Much a p M) (h0 : IS .i64 lo w A n c zs) (hn : n ≤ 65536) (hs0 : IS .i64 lo2 w B m d xs) (hm : m ≤ 60000) (hr : Ris xs) (hX : X < 4294967296) :
    Calls Tryd.prog 51 #[.agg #[.int .u32 (a : Int), .int .i64 p, .slice A n c, .int .i64 sh, .int .i64 wo, .int .i64 qu, .int .i64 tr], .slice B m d, .agg #[.int .i64 k, .int .u32 (X : Int), .slice C q f]] w (RetSA B m (doS a M zs xs 3 X ys).1 (doS a M zs xs 3 X ys).2 w) := by
  rw [doS_3]; exact release_is ha hM h0 hn hs0 hm hr hX rfl
set_option maxRecDepth 100000 in
set_option maxHeartbeats 4000000 in
theorem query_is (ha : a < 4294967296) (hM : Much a p M) (h0 : IS .i64 lo w A n c zs) (hn : n ≤ 65536) (hs0 : IS .i64 lo2 w B m d xs) (hm : m ≤ 60000) (hr : Ris xs) (hX : X < 4294967296) {v : Int} (hv : ofO a M X = v) {b : Bool} (hx : hasB xs v = b) :
    Calls Tryd.prog 53 #[.agg #[.int .u32 (a : Int), .int .i64 p, .slice A n c, .int .i64 sh, .int .i64 wo, .int .i64 qu, .int .i64 tr], .slice B m d, .agg #[.int .i64 k, .int .u32 (X : Int), .slice C q f]] w (RetSA B m xs (0, 0, b, [], []) w) := by
  have hs := hs0
  have K := Below.refl w.heap.size w
  go_enter Tryd.func53, Tryd.ntmps53
  go_upto_region 1 with (fail)
  have KS := K.size
  replace hs := hs.below (below_alloc _ (.cells #[.int .u32 (a : Int), .int .i64 p, .slice A n c, .int .i64 sh, .int .i64 wo, .int .i64 qu, .int .i64 tr] 27))
  replace K := Below.then_ K (below_alloc _ (.cells #[.int .u32 (a : Int), .int .i64 p, .slice A n c, .int .i64 sh, .int .i64 wo, .int .i64 qu, .int .i64 tr] 27))
  have H := Bk.new (w) #[.int .u32 (a : Int), .int .i64 p, .slice A n c, .int .i64 sh, .int .i64 wo, .int .i64 qu, .int .i64 tr] 27
  replace H := H.alloc (.cells #[.int .i64 k, .int .u32 (X : Int), .slice C q f] 30)
  replace hs := hs.below (below_alloc _ (.cells #[.int .i64 k, .int .u32 (X : Int), .slice C q f] 30))
  replace K := Below.then_ K (below_alloc _ (.cells #[.int .i64 k, .int .u32 (X : Int), .slice C q f] 30))
  have G := Bk.new ((w).alloc (.cells #[.int .u32 (a : Int), .int .i64 p, .slice A n c, .int .i64 sh, .int .i64 wo, .int .i64 qu, .int .i64 tr] 27)) #[.int .i64 k, .int .u32 (X : Int), .slice C q f] 30
  replace H := H.alloc (.cells #[.int .i64 0, .int .u32 0, .bool false, .slice none 0 0, .slice none 0 0] 34)
  replace G := G.alloc (.cells #[.int .i64 0, .int .u32 0, .bool false, .slice none 0 0, .slice none 0 0] 34)
  replace hs := hs.below (below_alloc _ (.cells #[.int .i64 0, .int .u32 0, .bool false, .slice none 0 0, .slice none 0 0] 34))
  replace K := Below.then_ K (below_alloc _ (.cells #[.int .i64 0, .int .u32 0, .bool false, .slice none 0 0, .slice none 0 0] 34))
  have R := Bk.new (((w).alloc (.cells #[.int .u32 (a : Int), .int .i64 p, .slice A n c, .int .i64 sh, .int .i64 wo, .int .i64 qu, .int .i64 tr] 27)).alloc (.cells #[.int .i64 k, .int .u32 (X : Int), .slice C q f] 30)) #[.int .i64 0, .int .u32 0, .bool false, .slice none 0 0, .slice none 0 0] 34
  try simp only [World.size_alloc] at H G R
  generalize (((w).alloc (.cells #[.int .u32 (a : Int), .int .i64 p, .slice A n c, .int .i64 sh, .int .i64 wo, .int .i64 qu, .int .i64 tr] 27)).alloc (.cells #[.int .i64 k, .int .u32 (X : Int), .slice C q f] 30)).alloc (.cells #[.int .i64 0, .int .u32 0, .bool false, .slice none 0 0, .slice none 0 0] 34) = w1 at H G R hs K ⊢
  generalize hgR : w.heap.size + 1 + 1 = gR at H G R ⊢
  generalize hgG : w.heap.size + 1 = gG at H G R ⊢
  generalize hgH : w.heap.size = gH at H G R ⊢
  have H_b : w.heap.size ≤ gH := by omega
  have G_b : w.heap.size ≤ gG := by omega
  have R_b : w.heap.size ≤ gR := by omega
  have ne_H_G : gH ≠ gG := by omega
  have ne_H_R : gH ≠ gR := by omega
  have ne_G_R : gG ≠ gR := by omega
  clear KS hgH hgG hgR 
  have H_0 := H.at_ (v := .int .u32 (a : Int)) 0 rfl
  have H_1 := H.at_ (v := .int .i64 p) 1 rfl
  have H_2 := H.at_ (v := .slice A n c) 2 rfl
  have H_3 := H.at_ (v := .int .i64 sh) 3 rfl
  have H_4 := H.at_ (v := .int .i64 wo) 4 rfl
  have H_5 := H.at_ (v := .int .i64 qu) 5 rfl
  have H_6 := H.at_ (v := .int .i64 tr) 6 rfl
  have H_z := H.lt
  have G_0 := G.at_ (v := .int .i64 k) 0 rfl
  have G_1 := G.at_ (v := .int .u32 (X : Int)) 1 rfl
  have G_2 := G.at_ (v := .slice C q f) 2 rfl
  have G_z := G.lt
  go_wp2_with fail
  refine (soffset_is hX ha hM hv).mono ?_
  rintro e w2 ⟨rfl, K'⟩
  clear H_0 H_1 H_2 H_3 H_4 H_5 H_6 H_z
  clear G_0 G_1 G_2 G_z
  replace H := H.below K'
  replace G := G.below K'
  replace R := R.below K'
  replace hs := hs.below K'
  replace K := Below.then_ K K'
  clear K'
  have T := mhas_any hs (by omega) hr v
  rw [hx] at T
  replace T := Lib.hid T
  go_wp2_with fail
  refine T.out.mono ?_
  rintro e _ ⟨rfl, rfl⟩
  clear T
  go_wp2_with (refine wpList_store_row rfl 34 (.tmp 7) (.tmp 14) rfl gR _ rfl (show _ = Value.agg #[.int .i64 0, .int .u32 0, .bool b, .slice none 0 0, .slice none 0 0] from rfl) _ _ R an_sz rfl (by simp [Value.oneCell']) ?_)
  replace H := H.row_far ne_H_R #[.int .i64 0, .int .u32 0, .bool b, .slice none 0 0, .slice none 0 0]
  replace G := G.row_far ne_G_R #[.int .i64 0, .int .u32 0, .bool b, .slice none 0 0, .slice none 0 0]
  replace R := R.row #[.int .i64 0, .int .u32 0, .bool b, .slice none 0 0, .slice none 0 0]
  replace K := below_setRow K R_b #[.int .i64 0, .int .u32 0, .bool b, .slice none 0 0, .slice none 0 0]
  replace hs := hs0.below K
  generalize w2.setRow gR #[.int .i64 0, .int .u32 0, .bool b, .slice none 0 0, .slice none 0 0] = w3 at H G R hs K ⊢
  refine bodyPost_ret (v := .tuple #[.slice B m d, .agg #[.int .i64 0, .int .u32 0, .bool b, .slice none 0 0, .slice none 0 0]]) ?_ rfl ?_
  · exact results_tc (fn := Tryd.f53) Tryd.results53 _ _ gR _ _ (0, 0) _ rfl R Tryd.underlying34 rfl an_sz
  exact ⟨_, _, _, _, _, _, _, _, _, rfl, hs.lower (Nat.zero_le _), (fun _ _ h => h), IS.none_ _ _ _, IS.none_ _ _ _, K⟩
theorem query_any (ha : a < 4294967296) (hM : Much a p M) (h0 : IS .i64 lo w A n c zs) (hn : n ≤ 65536) (hs0 : IS .i64 lo2 w B m d xs) (hm : m ≤ 60000) (hr : Ris xs) (hX : X < 4294967296) :
    Calls Tryd.prog 53 #[.agg #[.int .u32 (a : Int), .int .i64 p, .slice A n c, .int .i64 sh, .int .i64 wo, .int .i64 qu, .int .i64 tr], .slice B m d, .agg #[.int .i64 k, .int .u32 (X : Int), .slice C q f]] w (RetSA B m (doS a M zs xs 5 X ys).1 (doS a M zs xs 5 X ys).2 w) := by
  rw [doS_5]; exact query_is ha hM h0 hn hs0 hm hr hX rfl rfl
set_option maxRecDepth 100000 in
set_option maxHeartbeats 4000000 in
theorem snapshot_any (ha : a < 4294967296) (hM : Much a p M) (h0 : IS .i64 lo w A n c zs) (hn : n ≤ 65536) (hs0 : IS .i64 lo2 w B m d xs) (hm : m ≤ 60000) (hr : Ris xs) (hX : X < 4294967296) (hb : ∀ x ∈ xs, 0 ≤ x ∧ x ≤ 65536) :
    Calls Tryd.prog 54 #[.agg #[.int .u32 (a : Int), .int .i64 p, .slice A n c, .int .i64 sh, .int .i64 wo, .int .i64 qu, .int .i64 tr], .slice B m d, .agg #[.int .i64 k, .int .u32 (X : Int), .slice C q f]] w (RetSA B m (doS a M zs xs 6 X ys).1 (doS a M zs xs 6 X ys).2 w) := by
  rw [doS_6]
  have hs := hs0
  have K := Below.refl w.heap.size w
  go_enter Tryd.func54, Tryd.ntmps54
  go_upto_region 1 with (fail)
  have KS := K.size
  replace hs := hs.below (below_alloc _ (.cells #[.int .u32 (a : Int), .int .i64 p, .slice A n c, .int .i64 sh, .int .i64 wo, .int .i64 qu, .int .i64 tr] 27))
  replace K := Below.then_ K (below_alloc _ (.cells #[.int .u32 (a : Int), .int .i64 p, .slice A n c, .int .i64 sh, .int .i64 wo, .int .i64 qu, .int .i64 tr] 27))
  have H := Bk.new (w) #[.int .u32 (a : Int), .int .i64 p, .slice A n c, .int .i64 sh, .int .i64 wo, .int .i64 qu, .int .i64 tr] 27
  replace H := H.alloc (.cells #[.int .i64 k, .int .u32 (X : Int), .slice C q f] 30)
  replace hs := hs.below (below_alloc _ (.cells #[.int .i64 k, .int .u32 (X : Int), .slice C q f] 30))
  replace K := Below.then_ K (below_alloc _ (.cells #[.int .i64 k, .int .u32 (X : Int), .slice C q f] 30))
  have G := Bk.new ((w).alloc (.cells #[.int .u32 (a : Int), .int .i64 p, .slice A n c, .int .i64 sh, .int .i64 wo, .int .i64 qu, .int .i64 tr] 27)) #[.int .i64 k, .int .u32 (X : Int), .slice C q f] 30
  replace H := H.alloc (.cells #[.int .i64 0, .int .u32 0, .bool false, .slice none 0 0, .slice none 0 0] 34)
  replace G := G.alloc (.cells #[.int .i64 0, .int .u32 0, .bool false, .slice none 0 0, .slice none 0 0] 34)
  replace hs := hs.below (below_alloc _ (.cells #[.int .i64 0, .int .u32 0, .bool false, .slice none 0 0, .slice none 0 0] 34))
  replace K := Below.then_ K (below_alloc _ (.cells #[.int .i64 0, .int .u32 0, .bool false, .slice none 0 0, .slice none 0 0] 34))
  have R := Bk.new (((w).alloc (.cells #[.int .u32 (a : Int), .int .i64 p, .slice A n c, .int .i64 sh, .int .i64 wo, .int .i64 qu, .int .i64 tr] 27)).alloc (.cells #[.int .i64 k, .int .u32 (X : Int), .slice C q f] 30)) #[.int .i64 0, .int .u32 0, .bool false, .slice none 0 0, .slice none 0 0] 34
  try simp only [World.size_alloc] at H G R
  generalize (((w).alloc (.cells #[.int .u32 (a : Int), .int .i64 p, .slice A n c, .int .i64 sh, .int .i64 wo, .int .i64 qu, .int .i64 tr] 27)).alloc (.cells #[.int .i64 k, .int .u32 (X : Int), .slice C q f] 30)).alloc (.cells #[.int .i64 0, .int .u32 0, .bool false, .slice none 0 0, .slice none 0 0] 34) = w1 at H G R hs K ⊢
  generalize hgR : w.heap.size + 1 + 1 = gR at H G R ⊢
  generalize hgG : w.heap.size + 1 = gG at H G R ⊢
  generalize hgH : w.heap.size = gH at H G R ⊢
  have H_b : w.heap.size ≤ gH := by omega
  have G_b : w.heap.size ≤ gG := by omega
  have R_b : w.heap.size ≤ gR := by omega
  have ne_H_G : gH ≠ gG := by omega
  have ne_H_R : gH ≠ gR := by omega
  have ne_G_R : gG ≠ gR := by omega
  clear KS hgH hgG hgR 
  have KS0 := K.size
  have H_0 := H.at_ (v := .int .u32 (a : Int)) 0 rfl
  have H_1 := H.at_ (v := .int .i64 p) 1 rfl
  have H_2 := H.at_ (v := .slice A n c) 2 rfl
  have H_3 := H.at_ (v := .int .i64 sh) 3 rfl
  have H_4 := H.at_ (v := .int .i64 wo) 4 rfl
  have H_5 := H.at_ (v := .int .i64 qu) 5 rfl
  have H_6 := H.at_ (v := .int .i64 tr) 6 rfl
  have H_z := H.lt
  go_wp2_with fail
  refine (maddrs_any hs (by omega) hb).mono ?_
  clear H_0 H_1 H_2 H_3 H_4 H_5 H_6 H_z
  have H_l := H.lt
  have G_l := G.lt
  have R_l := R.lt
  rintro e w2 ⟨gI, rfl, hgI, I0, K'⟩
  have I : IS .u32 gI w2 (some ⟨gI, 0, none⟩) m m (ads a xs) := ⟨(Bi.is I0 ((ads_len a xs).trans hs.len) (by omega)).len, Nat.le_refl _, by unfold maxLen; omega, (fun e => by cases e), fun hq => by
    obtain ⟨b, o, e, _, r⟩ := (Bi.is I0 ((ads_len a xs).trans hs.len) (by omega)).cells hq
    cases e
    exact ⟨gI, 0, rfl, Nat.le_refl _, r⟩⟩
  have I_R : Av gR (some ⟨gI, 0, none⟩) m := I.av (Nat.lt_of_lt_of_le R_l hgI)
  clear I0
  clear H_l G_l R_l
  replace H := H.below K'
  replace G := G.below K'
  replace R := R.below K'
  replace hs := hs.below K'
  replace K := Below.then_ K K'
  clear K'
  go_wp2_with (refine wpList_store_row rfl 34 (.tmp 7) (.tmp 12) rfl gR _ rfl (show _ = Value.agg #[.int .i64 0, .int .u32 0, .bool false, .slice (some ⟨gI, 0, none⟩) m m, .slice none 0 0] from rfl) _ _ R an_sz rfl (by simp [Value.oneCell']) ?_)
  replace H := H.row_far ne_H_R #[.int .i64 0, .int .u32 0, .bool false, .slice (some ⟨gI, 0, none⟩) m m, .slice none 0 0]
  replace G := G.row_far ne_G_R #[.int .i64 0, .int .u32 0, .bool false, .slice (some ⟨gI, 0, none⟩) m m, .slice none 0 0]
  replace R := R.row #[.int .i64 0, .int .u32 0, .bool false, .slice (some ⟨gI, 0, none⟩) m m, .slice none 0 0]
  replace I := I.row_av I_R #[.int .i64 0, .int .u32 0, .bool false, .slice (some ⟨gI, 0, none⟩) m m, .slice none 0 0]
  replace K := below_setRow K R_b #[.int .i64 0, .int .u32 0, .bool false, .slice (some ⟨gI, 0, none⟩) m m, .slice none 0 0]
  replace hs := hs0.below K
  generalize w2.setRow gR #[.int .i64 0, .int .u32 0, .bool false, .slice (some ⟨gI, 0, none⟩) m m, .slice none 0 0] = w3 at H G R hs I K ⊢
  refine bodyPost_ret (v := .tuple #[.slice B m d, .agg #[.int .i64 0, .int .u32 0, .bool false, .slice (some ⟨gI, 0, none⟩) m m, .slice none 0 0]]) ?_ rfl ?_
  · exact results_tc (fn := Tryd.f54) Tryd.results54 _ _ gR _ _ (0, 0) _ rfl R Tryd.underlying34 rfl an_sz
  exact ⟨_, _, _, _, _, _, _, _, _, rfl, hs.lower (Nat.zero_le _), (fun _ _ h => h), I.lower (by omega), IS.none_ _ _ _, K⟩
set_option maxRecDepth 100000 in
set_option maxHeartbeats 4000000 in
theorem closing_any (ha : a < 4294967296) (hM : Much a p M) (h0 : IS .i64 lo w A n c zs) (hn : n ≤ 65536) (hs0 : IS .i64 lo2 w B m d xs) (hm : m ≤ 60000) (hr : Ris xs) (hX : X < 4294967296) :
    Calls Tryd.prog 55 #[.agg #[.int .u32 (a : Int), .int .i64 p, .slice A n c, .int .i64 sh, .int .i64 wo, .int .i64 qu, .int .i64 tr], .slice B m d, .agg #[.int .i64 k, .int .u32 (X : Int), .slice C q f]] w (RetSA B m (doS a M zs xs 7 X ys).1 (doS a M zs xs 7 X ys).2 w) := by
  rw [doS_7]
  have hs := hs0
  have K := Below.refl w.heap.size w
  go_enter Tryd.func55, Tryd.ntmps55
  go_upto_region 1 with (fail)
  have KS := K.size
  replace hs := hs.below (below_alloc _ (.cells #[.int .u32 (a : Int), .int .i64 p, .slice A n c, .int .i64 sh, .int .i64 wo, .int .i64 qu, .int .i64 tr] 27))
  replace K := Below.then_ K (below_alloc _ (.cells #[.int .u32 (a : Int), .int .i64 p, .slice A n c, .int .i64 sh, .int .i64 wo, .int .i64 qu, .int .i64 tr] 27))
  have H := Bk.new (w) #[.int .u32 (a : Int), .int .i64 p, .slice A n c, .int .i64 sh, .int .i64 wo, .int .i64 qu, .int .i64 tr] 27
  replace H := H.alloc (.cells #[.int .i64 k, .int .u32 (X : Int), .slice C q f] 30)
  replace hs := hs.below (below_alloc _ (.cells #[.int .i64 k, .int .u32 (X : Int), .slice C q f] 30))
  replace K := Below.then_ K (below_alloc _ (.cells #[.int .i64 k, .int .u32 (X : Int), .slice C q f] 30))
  have G := Bk.new ((w).alloc (.cells #[.int .u32 (a : Int), .int .i64 p, .slice A n c, .int .i64 sh, .int .i64 wo, .int .i64 qu, .int .i64 tr] 27)) #[.int .i64 k, .int .u32 (X : Int), .slice C q f] 30
  replace H := H.alloc (.cells #[.int .i64 0, .int .u32 0, .bool false, .slice none 0 0, .slice none 0 0] 34)
  replace G := G.alloc (.cells #[.int .i64 0, .int .u32 0, .bool false, .slice none 0 0, .slice none 0 0] 34)
  replace hs := hs.below (below_alloc _ (.cells #[.int .i64 0, .int .u32 0, .bool false, .slice none 0 0, .slice none 0 0] 34))
  replace K := Below.then_ K (below_alloc _ (.cells #[.int .i64 0, .int .u32 0, .bool false, .slice none 0 0, .slice none 0 0] 34))
  have R := Bk.new (((w).alloc (.cells #[.int .u32 (a : Int), .int .i64 p, .slice A n c, .int .i64 sh, .int .i64 wo, .int .i64 qu, .int .i64 tr] 27)).alloc (.cells #[.int .i64 k, .int .u32 (X : Int), .slice C q f] 30)) #[.int .i64 0, .int .u32 0, .bool false, .slice none 0 0, .slice none 0 0] 34
  try simp only [World.size_alloc] at H G R
  generalize (((w).alloc (.cells #[.int .u32 (a : Int), .int .i64 p, .slice A n c, .int .i64 sh, .int .i64 wo, .int .i64 qu, .int .i64 tr] 27)).alloc (.cells #[.int .i64 k, .int .u32 (X : Int), .slice C q f] 30)).alloc (.cells #[.int .i64 0, .int .u32 0, .bool false, .slice none 0 0, .slice none 0 0] 34) = w1 at H G R hs K ⊢
  generalize hgR : w.heap.size + 1 + 1 = gR at H G R ⊢
  generalize hgG : w.heap.size + 1 = gG at H G R ⊢
  generalize hgH : w.heap.size = gH at H G R ⊢
  have H_b : w.heap.size ≤ gH := by omega
  have G_b : w.heap.size ≤ gG := by omega
  have R_b : w.heap.size ≤ gR := by omega
  have ne_H_G : gH ≠ gG := by omega
  have ne_H_R : gH ≠ gR := by omega
  have ne_G_R : gG ≠ gR := by omega
  clear KS hgH hgG hgR 
  go_wp2_with (refine wpList_store_row rfl 34 (.tmp 7) (.tmp 9) rfl gR _ rfl (show _ = Value.agg #[.int .i64 0, .int .u32 0, .bool false, .slice none 0 0, .slice none 0 0] from rfl) _ _ R an_sz rfl (by simp [Value.oneCell']) ?_)
  replace H := H.row_far ne_H_R #[.int .i64 0, .int .u32 0, .bool false, .slice none 0 0, .slice none 0 0]
  replace G := G.row_far ne_G_R #[.int .i64 0, .int .u32 0, .bool false, .slice none 0 0, .slice none 0 0]
  replace R := R.row #[.int .i64 0, .int .u32 0, .bool false, .slice none 0 0, .slice none 0 0]
  replace K := below_setRow K R_b #[.int .i64 0, .int .u32 0, .bool false, .slice none 0 0, .slice none 0 0]
  replace hs := hs0.below K
  generalize w1.setRow gR #[.int .i64 0, .int .u32 0, .bool false, .slice none 0 0, .slice none 0 0] = w2 at H G R hs K ⊢
  refine bodyPost_ret (v := .tuple #[.slice B m d, .agg #[.int .i64 0, .int .u32 0, .bool false, .slice none 0 0, .slice none 0 0]]) ?_ rfl ?_
  · exact results_tc (fn := Tryd.f55) Tryd.results55 _ _ gR _ _ (0, 0) _ rfl R Tryd.underlying34 rfl an_sz
  exact ⟨_, _, _, _, _, _, _, _, _, rfl, hs.lower (Nat.zero_le _), (fun _ _ h => h), IS.none_ _ _ _, IS.none_ _ _ _, K⟩
end
end Go.Proofs.YtmakbmmnjbnfiaaDoor
