/-
  The walk of the statement QueueDoes at a queue that may be, closed: false; conditions: as each theorem states.
-/
import Derived.Test.YtlaihgcpaiocpaaQueueDoesA
namespace Go.Proofs.Ytlaihgcpaiocpaa.queueDoes
open Go.RowKit
set_option maxRecDepth 100000 in
set_option maxHeartbeats 2000000 in
theorem yes_good_false (m : Int) (A : Option Addr) (n c : Nat) (xs : List Int) (x most : Int) (w : World) (I : IS .i64 0 w A n c xs) (hn : n ≤ 200) (h1 : 1 ≤ most) (h2 : most ≤ 64) (hm : mayB m n = true) :
    Calls Try.prog 3 #[.agg #[.int .i64 m, .slice A n c, .bool false], .int .i64 x, .int .i64 most] w fun e w' => e = .returned (.bool true) ∧ Below w.heap.size w w' := by
  have hd : decide ((200 : Int) < (n : Int)) = false := by simp; omega
  have K := below_alloc w (.cells #[.int .i64 m, .slice A n c, .bool false] 24)
  replace I := I.below K
  have H := Q3.new w (.int .i64 m) (.slice A n c) (.bool false)
  have hg : w.heap.size < (w.alloc (.cells #[.int .i64 m, .slice A n c, .bool false] 24)).heap.size := H.lt
  have hnm : (n : Int) ≤ m := by unfold mayB at hm; simp at hm; omega
  have HM := Lib.hid hm
  clear hm
  have eb : (mayB m n != mayB m n) = false := by simp
  go_enter Try.func3, Try.ntmps3
  go_wp2_with fail
  generalize w.alloc (.cells #[.int .i64 m, .slice A n c, .bool false] 24) = w1 at H I K hg ⊢
  generalize w.heap.size = g at H hg ⊢
  have q0 := H.c0
  have q1 := H.c1
  have q2 := H.c2
  go_region_held3 (fun w' => w'.cell? ⟨g, 0, none⟩ = some (.int .i64 m) ∧ w'.cell? ⟨g, 1, none⟩ = some (.slice A n c) ∧ w'.cell? ⟨g, 2, none⟩ = some (.bool false) ∧ Below w1.heap.size w1 w') (first | exact ⟨q0, q1, q2, (Below.refl _ _).drew⟩ | exact s_step (by assumption) hg K')
    (first | (go_at_call 6; refine (awake_any _).mono ?_; rintro e w' ⟨rfl, K'⟩) | (go_at_call 7; refine (may_any _ _ _ _ _ _).mono ?_; rintro e w' ⟨rfl, K'⟩) | (go_at_call 8; refine (rmay_any _ _ _ _ _ _).mono ?_; rintro e w' ⟨rfl, K'⟩))
  rename_i hS
  have L := hS.2.2.2
  clear hS K' eb q0 q1 q2
  replace H := H.below L
  replace I := I.below L
  replace K := Below.then_ K L
  clear L hg
  go_wp2_with fail
  refine (new_yes (m := most) h1 h2 _).mono ?_
  rintro e w2 ⟨rfl, K'⟩
  replace H := H.below K'
  replace I := I.below K'
  replace K := Below.then_ K K'
  clear K'
  go_wp2_with fail
  refine (same_any (IS.none_ .i64 0 _) (IS.none_ .i64 0 _) (by decide)).mono ?_
  rintro e w3 ⟨rfl, K'⟩
  replace H := (H.alloc _).below K'
  replace I := (I.below (below_alloc _ _)).below K'
  have Hn := (Q3.new w2 (.int .i64 most) (.slice none 0 0) (.bool false)).below K'
  replace K := Below.then_ (Below.then_ K (below_alloc _ _)) K'
  clear K'
  clear Hn
  have H_0 := H.c0
  have H_1 := H.c1
  have H_2 := H.c2
  have H_z := H.lt
  go_wp2_with fail
  refine (rmay_is HM.out).mono ?_
  rintro e w4 ⟨rfl, K'⟩
  clear H_0 H_1 H_2 H_z
  replace H := H.below K'
  replace I := I.below K'
  replace K := Below.then_ K K'
  clear K'
  have H_0 := H.c0
  have H_1 := H.c1
  have H_2 := H.c2
  have H_z := H.lt
  go_wp2_with fail
  refine (put_any (m := m) (x := x) (cl := false) I (by omega)).mono ?_
  rintro e w5 ⟨A1, c1, rfl, I1, K'⟩
  clear H_0 H_1 H_2 H_z
  replace H := H.below K'
  replace I := I.below K'
  replace K := Below.then_ K K'
  clear K'
  have H_0 := H.c0
  have H_1 := H.c1
  have H_2 := H.c2
  have H_z := H.lt
  go_wp2_with fail
  refine (rput_any (m := m) (x := x) (cl := false) (I.below (below_alloc _ _)) hnm (by omega)).mono ?_
  rintro e w6 ⟨A2, c2, rfl, I2, K'⟩
  clear H_0 H_1 H_2 H_z
  replace H := (H.alloc _).below K'
  replace I := (I.below (below_alloc _ _)).below K'
  replace I1 := (I1.below (below_alloc _ _)).below K'
  have H1 := (Q3.new w5 (.int .i64 m) (.slice A1 (putN m n false) c1) (.bool false)).below K'
  replace K := Below.then_ (Below.then_ K (below_alloc _ _)) K'
  clear K'
  have H_0 := H.c0
  have H_1 := H.c1
  have H_2 := H.c2
  have H_z := H.lt
  go_wp2_with fail
  refine (take_any (I.below (below_alloc _ _)) (by omega)).mono ?_
  rintro e w7 ⟨A3, c3, rfl, I3, K'⟩
  clear H_0 H_1 H_2 H_z
  replace H := (H.alloc _).below K'
  replace H1 := (H1.alloc _).below K'
  replace I := (I.below (below_alloc _ _)).below K'
  replace I1 := (I1.below (below_alloc _ _)).below K'
  replace I2 := (I2.below (below_alloc _ _)).below K'
  have H2 := (Q3.new w6 (.int .i64 m) (.slice A2 (putN m n false) c2) (.bool false)).below K'
  replace K := Below.then_ (Below.then_ K (below_alloc _ _)) K'
  clear K'
  have H_0 := H.c0
  have H_1 := H.c1
  have H_2 := H.c2
  have H_z := H.lt
  go_wp2_with fail
  refine (rtake_any (I.below (below_alloc _ _)) (by omega)).mono ?_
  rintro e w8 ⟨A4, c4, rfl, I4, K'⟩
  clear H_0 H_1 H_2 H_z
  replace H := (H.alloc _).below K'
  replace H1 := (H1.alloc _).below K'
  replace H2 := (H2.alloc _).below K'
  replace I := (I.below (below_alloc _ _)).below K'
  replace I1 := (I1.below (below_alloc _ _)).below K'
  replace I2 := (I2.below (below_alloc _ _)).below K'
  replace I3 := (I3.below (below_alloc _ _)).below K'
  have H3 := (Q3.new w7 (.int .i64 m) (.slice A3 (n - 1) c3) (.bool false)).below K'
  replace K := Below.then_ (Below.then_ K (below_alloc _ _)) K'
  clear K'
  have H_0 := H.c0
  have H_1 := H.c1
  have H_2 := H.c2
  have H_z := H.lt
  go_wp2_with fail
  clear H_0 H_1 H_2 H_z
  replace H := (H.alloc (.cells #[.int .i64 m, .slice A4 (n - 1) c4, .bool false] 24)).alloc (.cells #[.int .i64 m, .slice A n c, .bool true] 24)
  replace H1 := (H1.alloc (.cells #[.int .i64 m, .slice A4 (n - 1) c4, .bool false] 24)).alloc (.cells #[.int .i64 m, .slice A n c, .bool true] 24)
  replace H2 := (H2.alloc (.cells #[.int .i64 m, .slice A4 (n - 1) c4, .bool false] 24)).alloc (.cells #[.int .i64 m, .slice A n c, .bool true] 24)
  replace H3 := (H3.alloc (.cells #[.int .i64 m, .slice A4 (n - 1) c4, .bool false] 24)).alloc (.cells #[.int .i64 m, .slice A n c, .bool true] 24)
  have H4 := (Q3.new w8 (.int .i64 m) (.slice A4 (n - 1) c4) (.bool false)).alloc (.cells #[.int .i64 m, .slice A n c, .bool true] 24)
  have H5 := Q3.new (w8.alloc (.cells #[.int .i64 m, .slice A4 (n - 1) c4, .bool false] 24)) (.int .i64 m) (.slice A n c) (.bool true)
  simp only [World.size_alloc] at H5
  have L := Below.then_ (below_alloc w8 (.cells #[.int .i64 m, .slice A4 (n - 1) c4, .bool false] 24)) (below_alloc _ (.cells #[.int .i64 m, .slice A n c, .bool true] 24))
  replace I := I.below L
  replace I1 := I1.below L
  replace I2 := I2.below L
  replace I3 := I3.below L
  replace I4 := I4.below L
  replace K := Below.then_ K L
  clear L
  generalize (w8.alloc (.cells #[.int .i64 m, .slice A4 (n - 1) c4, .bool false] 24)).alloc (.cells #[.int .i64 m, .slice A n c, .bool true] 24) = w9 at H H1 H2 H3 H4 H5 I I1 I2 I3 I4 K ⊢
  generalize w5.heap.size = g1 at H1 ⊢
  generalize w6.heap.size = g2 at H2 ⊢
  generalize w7.heap.size = g3 at H3 ⊢
  generalize w8.heap.size + 1 = g5 at H5 ⊢
  generalize w8.heap.size = g4 at H4 ⊢
  have KK := K
  clear K
  have e1 : (putE m n false == putE m n false) = true := by simp
  have e2 : (gi xs 0 == gi xs 0) = true := by simp
  have e3 : (tkB n == tkB n) = true := by simp
  refine wp_region_held_drew (S := (fun w' => Below w9.heap.size w9 w' ∧ w'.cell? ⟨g, 0, none⟩ = some (.int .i64 m) ∧ w'.cell? ⟨g, 1, none⟩ = some (.slice A n c) ∧ w'.cell? ⟨g, 2, none⟩ = some (.bool false) ∧ w'.cell? ⟨g1, 0, none⟩ = some (.int .i64 m) ∧ w'.cell? ⟨g1, 1, none⟩ = some (.slice A1 (putN m n false) c1) ∧ w'.cell? ⟨g1, 2, none⟩ = some (.bool false) ∧ w'.cell? ⟨g2, 0, none⟩ = some (.int .i64 m) ∧ w'.cell? ⟨g2, 1, none⟩ = some (.slice A2 (putN m n false) c2) ∧ w'.cell? ⟨g2, 2, none⟩ = some (.bool false) ∧ w'.cell? ⟨g3, 0, none⟩ = some (.int .i64 m) ∧ w'.cell? ⟨g3, 1, none⟩ = some (.slice A3 (n - 1) c3) ∧ w'.cell? ⟨g3, 2, none⟩ = some (.bool false) ∧ w'.cell? ⟨g4, 0, none⟩ = some (.int .i64 m) ∧ w'.cell? ⟨g4, 1, none⟩ = some (.slice A4 (n - 1) c4) ∧ w'.cell? ⟨g4, 2, none⟩ = some (.bool false) ∧ w'.cell? ⟨g5, 0, none⟩ = some (.int .i64 m) ∧ w'.cell? ⟨g5, 1, none⟩ = some (.slice A n c) ∧ w'.cell? ⟨g5, 2, none⟩ = some (.bool true))) (by kernel_rfl) (s6 H H1 H2 H3 H4 H5 (Below.refl _ _).drew) (fun hHeld => ?_)
  refine wpAnyH_take (i := 0) (oi := ⟨some 111, _, _, _, _, _⟩) (v := ?_) rfl (by kernel_rfl) (by kernel_rfl) (by kernel_rfl) (fun _ _ _ h => h) (Or.inl ⟨by rfl, ?_⟩) hHeld ?_
  rotate_left
  · intro w hSw
    try dsimp only at hSw
    go_simp
    try with_reducible rfl
  try simp only [Act.put, List.setIfInBounds_toArray, List.set_cons_zero, List.set_cons_succ]
  refine wpAnyH_take (i := 1) (oi := ⟨some 112, _, _, _, _, _⟩) (v := ?_) rfl (by kernel_rfl) (by kernel_rfl) (by kernel_rfl) (fun _ _ _ h => h) (Or.inl ⟨by rfl, ?_⟩) hHeld ?_
  rotate_left
  · intro w hSw
    try dsimp only at hSw
    go_simp
    try with_reducible rfl
  try simp only [Act.put, List.setIfInBounds_toArray, List.set_cons_zero, List.set_cons_succ]
  refine wpAnyH_ready (rs := [2]) (by kernel_rfl) (by simp) ?_
  refine AllReadyH.cons (o := ⟨some 113, _, _, _, _, _⟩) rfl (fun K hK => ?_) AllReadyH.nil
  go_simp
  refine (same_any (I1.below (sB hHeld)) (I2.below (sB hHeld)) (putN_le false hn)).mono ?_
  rintro e w' ⟨rfl, K'⟩
  refine hK.out _ _ (s6 H H1 H2 H3 H4 H5 (Below.then_ (sB hHeld) K')) (fun hHeld' => ?_)
  clear hHeld K' hK
  clear K
  have hHeld := hHeld'
  clear hHeld'
  try simp only [Act.put, List.setIfInBounds_toArray, List.set_cons_zero, List.set_cons_succ]
  refine wpAnyH_take (i := 3) (oi := ⟨some 114, _, _, _, _, _⟩) (v := ?_) rfl (by kernel_rfl) (by kernel_rfl) (by kernel_rfl) (fun _ _ _ h => h) (Or.inl ⟨by rfl, ?_⟩) hHeld ?_
  rotate_left
  · intro w hSw
    try dsimp only at hSw
    go_simp
    try with_reducible rfl
  try simp only [Act.put, List.setIfInBounds_toArray, List.set_cons_zero, List.set_cons_succ]
  refine wpAnyH_take (i := 4) (oi := ⟨some 115, _, _, _, _, _⟩) (v := ?_) rfl (by kernel_rfl) (by kernel_rfl) (by kernel_rfl) (fun _ _ _ h => h) (Or.inl ⟨by rfl, ?_⟩) hHeld ?_
  rotate_left
  · intro w hSw
    try dsimp only at hSw
    go_simp
    try with_reducible rfl
  try simp only [Act.put, List.setIfInBounds_toArray, List.set_cons_zero, List.set_cons_succ]
  refine wpAnyH_take (i := 5) (oi := ⟨some 116, _, _, _, _, _⟩) (v := ?_) rfl (by kernel_rfl) (by kernel_rfl) (by kernel_rfl) (fun _ _ _ h => h) (Or.inl ⟨by rfl, ?_⟩) hHeld ?_
  rotate_left
  · intro w hSw
    try dsimp only at hSw
    go_simp
    try with_reducible rfl
  try simp only [Act.put, List.setIfInBounds_toArray, List.set_cons_zero, List.set_cons_succ]
  refine wpAnyH_take (i := 6) (oi := ⟨some 117, _, _, _, _, _⟩) (v := ?_) rfl (by kernel_rfl) (by kernel_rfl) (by kernel_rfl) (fun _ _ _ h => h) (Or.inl ⟨by rfl, ?_⟩) hHeld ?_
  rotate_left
  · intro w hSw
    try dsimp only at hSw
    go_simp
    try with_reducible rfl
  try simp only [Act.put, List.setIfInBounds_toArray, List.set_cons_zero, List.set_cons_succ]
  refine wpAnyH_take (i := 7) (oi := ⟨some 118, _, _, _, _, _⟩) (v := ?_) rfl (by kernel_rfl) (by kernel_rfl) (by kernel_rfl) (fun _ _ _ h => h) (Or.inl ⟨by rfl, ?_⟩) hHeld ?_
  rotate_left
  · intro w hSw
    try dsimp only at hSw
    go_simp
    try with_reducible rfl
  try simp only [Act.put, List.setIfInBounds_toArray, List.set_cons_zero, List.set_cons_succ]
  refine wpAnyH_take (i := 8) (oi := ⟨some 119, _, _, _, _, _⟩) (v := ?_) rfl (by kernel_rfl) (by kernel_rfl) (by kernel_rfl) (fun _ _ _ h => h) (Or.inl ⟨by rfl, ?_⟩) hHeld ?_
  rotate_left
  · intro w hSw
    try dsimp only at hSw
    go_simp
    try with_reducible rfl
  try simp only [Act.put, List.setIfInBounds_toArray, List.set_cons_zero, List.set_cons_succ]
  refine wpAnyH_take (i := 9) (oi := ⟨some 120, _, _, _, _, _⟩) (v := ?_) rfl (by kernel_rfl) (by kernel_rfl) (by kernel_rfl) (fun _ _ _ h => h) (Or.inl ⟨by rfl, ?_⟩) hHeld ?_
  rotate_left
  · intro w hSw
    try dsimp only at hSw
    go_simp
    try with_reducible rfl
  try simp only [Act.put, List.setIfInBounds_toArray, List.set_cons_zero, List.set_cons_succ]
  refine wpAnyH_take (i := 10) (oi := ⟨some 121, _, _, _, _, _⟩) (v := ?_) rfl (by kernel_rfl) (by kernel_rfl) (by kernel_rfl) (fun _ _ _ h => h) (Or.inl ⟨by rfl, ?_⟩) hHeld ?_
  rotate_left
  · intro w hSw
    try dsimp only at hSw
    go_simp
    try with_reducible rfl
  try simp only [Act.put, List.setIfInBounds_toArray, List.set_cons_zero, List.set_cons_succ]
  refine wpAnyH_ready (rs := [11]) (by kernel_rfl) (by simp) ?_
  refine AllReadyH.cons (o := ⟨some 122, _, _, _, _, _⟩) rfl (fun K hK => ?_) AllReadyH.nil
  go_simp
  refine (same_any (I3.below (sB hHeld)) (I4.below (sB hHeld)) (by omega)).mono ?_
  rintro e w' ⟨rfl, K'⟩
  refine hK.out _ _ (s6 H H1 H2 H3 H4 H5 (Below.then_ (sB hHeld) K')) (fun hHeld' => ?_)
  clear hHeld K' hK
  clear K
  have hHeld := hHeld'
  clear hHeld'
  try simp only [Act.put, List.setIfInBounds_toArray, List.set_cons_zero, List.set_cons_succ]
  refine wpAnyH_take (i := 12) (oi := ⟨some 123, _, _, _, _, _⟩) (v := ?_) rfl (by kernel_rfl) (by kernel_rfl) (by kernel_rfl) (fun _ _ _ h => h) (Or.inl ⟨by rfl, ?_⟩) hHeld ?_
  rotate_left
  · intro w hSw
    try dsimp only at hSw
    go_simp
    try with_reducible rfl
  try simp only [Act.put, List.setIfInBounds_toArray, List.set_cons_zero, List.set_cons_succ]
  refine wpAnyH_take (i := 13) (oi := ⟨some 124, _, _, _, _, _⟩) (v := ?_) rfl (by kernel_rfl) (by kernel_rfl) (by kernel_rfl) (fun _ _ _ h => h) (Or.inl ⟨by rfl, ?_⟩) hHeld ?_
  rotate_left
  · intro w hSw
    try dsimp only at hSw
    go_simp
    try with_reducible rfl
  try simp only [Act.put, List.setIfInBounds_toArray, List.set_cons_zero, List.set_cons_succ]
  refine wpAnyH_take (i := 14) (oi := ⟨some 125, _, _, _, _, _⟩) (v := ?_) rfl (by kernel_rfl) (by kernel_rfl) (by kernel_rfl) (fun _ _ _ h => h) (Or.inl ⟨by rfl, ?_⟩) hHeld ?_
  rotate_left
  · intro w hSw
    try dsimp only at hSw
    go_simp
    try with_reducible rfl
  try simp only [Act.put, List.setIfInBounds_toArray, List.set_cons_zero, List.set_cons_succ]
  refine wpAnyH_take (i := 15) (oi := ⟨some 126, _, _, _, _, _⟩) (v := ?_) rfl (by kernel_rfl) (by kernel_rfl) (by kernel_rfl) (fun _ _ _ h => h) (Or.inl ⟨by rfl, ?_⟩) hHeld ?_
  rotate_left
  · intro w hSw
    try dsimp only at hSw
    go_simp
    try with_reducible rfl
  try simp only [Act.put, List.setIfInBounds_toArray, List.set_cons_zero, List.set_cons_succ]
  refine wpAnyH_take (i := 16) (oi := ⟨some 127, _, _, _, _, _⟩) (v := ?_) rfl (by kernel_rfl) (by kernel_rfl) (by kernel_rfl) (fun _ _ _ h => h) (Or.inl ⟨by rfl, ?_⟩) hHeld ?_
  rotate_left
  · intro w hSw
    try dsimp only at hSw
    go_simp
    try with_reducible rfl
  try simp only [Act.put, List.setIfInBounds_toArray, List.set_cons_zero, List.set_cons_succ]
  refine wpAnyH_take (i := 17) (oi := ⟨some 128, _, _, _, _, _⟩) (v := ?_) rfl (by kernel_rfl) (by kernel_rfl) (by kernel_rfl) (fun _ _ _ h => h) (Or.inl ⟨by rfl, ?_⟩) hHeld ?_
  rotate_left
  · intro w hSw
    try dsimp only at hSw
    go_simp
    try with_reducible rfl
  try simp only [Act.put, List.setIfInBounds_toArray, List.set_cons_zero, List.set_cons_succ]
  refine wpAnyH_take (i := 18) (oi := ⟨some 129, _, _, _, _, _⟩) (v := ?_) rfl (by kernel_rfl) (by kernel_rfl) (by kernel_rfl) (fun _ _ _ h => h) (Or.inl ⟨by rfl, ?_⟩) hHeld ?_
  rotate_left
  · intro w hSw
    try dsimp only at hSw
    go_simp
    try with_reducible rfl
  try simp only [Act.put, List.setIfInBounds_toArray, List.set_cons_zero, List.set_cons_succ]
  refine wpAnyH_take (i := 19) (oi := ⟨some 130, _, _, _, _, _⟩) (v := ?_) rfl (by kernel_rfl) (by kernel_rfl) (by kernel_rfl) (fun _ _ _ h => h) (Or.inl ⟨by rfl, ?_⟩) hHeld ?_
  rotate_left
  · intro w hSw
    try dsimp only at hSw
    go_simp
    try with_reducible rfl
  try simp only [Act.put, List.setIfInBounds_toArray, List.set_cons_zero, List.set_cons_succ]
  refine wpAnyH_take (i := 20) (oi := ⟨some 131, _, _, _, _, _⟩) (v := ?_) rfl (by kernel_rfl) (by kernel_rfl) (by kernel_rfl) (fun _ _ _ h => h) (Or.inl ⟨by rfl, ?_⟩) hHeld ?_
  rotate_left
  · intro w hSw
    try dsimp only at hSw
    go_simp
    try with_reducible rfl
  try simp only [Act.put, List.setIfInBounds_toArray, List.set_cons_zero, List.set_cons_succ]
  refine wpAnyH_take (i := 21) (oi := ⟨some 132, _, _, _, _, _⟩) (v := ?_) rfl (by kernel_rfl) (by kernel_rfl) (by kernel_rfl) (fun _ _ _ h => h) (Or.inl ⟨by rfl, ?_⟩) hHeld ?_
  rotate_left
  · intro w hSw
    try dsimp only at hSw
    go_simp
    try with_reducible rfl
  try simp only [Act.put, List.setIfInBounds_toArray, List.set_cons_zero, List.set_cons_succ]
  refine wpAnyH_take (i := 22) (oi := ⟨some 133, _, _, _, _, _⟩) (v := ?_) rfl (by kernel_rfl) (by kernel_rfl) (by kernel_rfl) (fun _ _ _ h => h) (Or.inl ⟨by rfl, ?_⟩) hHeld ?_
  rotate_left
  · intro w hSw
    try dsimp only at hSw
    go_simp
    try with_reducible rfl
  try simp only [Act.put, List.setIfInBounds_toArray, List.set_cons_zero, List.set_cons_succ]
  refine wpAnyH_take (i := 23) (oi := ⟨some 134, _, _, _, _, _⟩) (v := ?_) rfl (by kernel_rfl) (by kernel_rfl) (by kernel_rfl) (fun _ _ _ h => h) (Or.inl ⟨by rfl, ?_⟩) hHeld ?_
  rotate_left
  · intro w hSw
    try dsimp only at hSw
    go_simp
    try with_reducible rfl
  try simp only [Act.put, List.setIfInBounds_toArray, List.set_cons_zero, List.set_cons_succ]
  refine wpAnyH_take (i := 24) (oi := ⟨some 135, _, _, _, _, _⟩) (v := ?_) rfl (by kernel_rfl) (by kernel_rfl) (by kernel_rfl) (fun _ _ _ h => h) (Or.inl ⟨by rfl, ?_⟩) hHeld ?_
  rotate_left
  · intro w hSw
    try dsimp only at hSw
    go_simp
    try with_reducible rfl
  try simp only [Act.put, List.setIfInBounds_toArray, List.set_cons_zero, List.set_cons_succ]
  refine wpAnyH_take (i := 26) (oi := ⟨some 137, _, _, _, _, _⟩) (v := ?_) rfl (by kernel_rfl) (by kernel_rfl) (by kernel_rfl) (fun _ _ _ h => h) (Or.inl ⟨by rfl, ?_⟩) hHeld ?_
  rotate_left
  · intro w hSw
    try dsimp only at hSw
    go_simp
    try with_reducible rfl
  try simp only [Act.put, List.setIfInBounds_toArray, List.set_cons_zero, List.set_cons_succ]
  refine wpAnyH_ready (rs := [25]) (by kernel_rfl) (by simp) ?_
  refine AllReadyH.cons (o := ⟨some 136, _, _, _, _, _⟩) rfl (fun K hK => ?_) AllReadyH.nil
  go_simp
  refine (close_any (I.below (sB hHeld)) (by omega)).mono ?_
  rintro e w' ⟨A6, c6, rfl, I6, K'⟩
  refine hK.out _ _ (s6 H H1 H2 H3 H4 H5 (Below.then_ (sB hHeld) K')) (fun hHeld' => ?_)
  clear hHeld K' hK
  clear K
  have hHeld := hHeld'
  clear hHeld'
  try simp only [Act.put, List.setIfInBounds_toArray, List.set_cons_zero, List.set_cons_succ]
  refine wpAnyH_ready (rs := [27]) (by kernel_rfl) (by simp) ?_
  refine AllReadyH.cons (o := ⟨some 138, _, _, _, _, _⟩) rfl (fun K hK => ?_) AllReadyH.nil
  go_simp
  refine (same_any I6 (I.below (sB hHeld)) (by omega)).mono ?_
  rintro e w' ⟨rfl, K'⟩
  refine hK.out _ _ (s6 H H1 H2 H3 H4 H5 (Below.then_ (sB hHeld) K')) (fun hHeld' => ?_)
  clear hHeld K' hK
  clear K
  have hHeld := hHeld'
  clear hHeld'
  try simp only [Act.put, List.setIfInBounds_toArray, List.set_cons_zero, List.set_cons_succ]
  refine wpAnyH_take (i := 28) (oi := ⟨some 139, _, _, _, _, _⟩) (v := ?_) rfl (by kernel_rfl) (by kernel_rfl) (by kernel_rfl) (fun _ _ _ h => h) (Or.inl ⟨by rfl, ?_⟩) hHeld ?_
  rotate_left
  · intro w hSw
    try dsimp only at hSw
    go_simp
    try with_reducible rfl
  try simp only [Act.put, List.setIfInBounds_toArray, List.set_cons_zero, List.set_cons_succ]
  refine wpAnyH_take (i := 29) (oi := ⟨some 140, _, _, _, _, _⟩) (v := ?_) rfl (by kernel_rfl) (by kernel_rfl) (by kernel_rfl) (fun _ _ _ h => h) (Or.inl ⟨by rfl, ?_⟩) hHeld ?_
  rotate_left
  · intro w hSw
    try dsimp only at hSw
    go_simp
    try with_reducible rfl
  try simp only [Act.put, List.setIfInBounds_toArray, List.set_cons_zero, List.set_cons_succ]
  refine wpAnyH_take (i := 30) (oi := ⟨some 141, _, _, _, _, _⟩) (v := ?_) rfl (by kernel_rfl) (by kernel_rfl) (by kernel_rfl) (fun _ _ _ h => h) (Or.inl ⟨by rfl, ?_⟩) hHeld ?_
  rotate_left
  · intro w hSw
    try dsimp only at hSw
    go_simp
    try with_reducible rfl
  try simp only [Act.put, List.setIfInBounds_toArray, List.set_cons_zero, List.set_cons_succ]
  refine wpAnyH_take (i := 32) (oi := ⟨some 143, _, _, _, _, _⟩) (v := ?_) rfl (by kernel_rfl) (by kernel_rfl) (by kernel_rfl) (fun _ _ _ h => h) (Or.inl ⟨by rfl, ?_⟩) hHeld ?_
  rotate_left
  · intro w hSw
    try dsimp only at hSw
    go_simp
    try with_reducible rfl
  try simp only [Act.put, List.setIfInBounds_toArray, List.set_cons_zero, List.set_cons_succ]
  refine wpAnyH_take (i := 33) (oi := ⟨some 144, _, _, _, _, _⟩) (v := ?_) rfl (by kernel_rfl) (by kernel_rfl) (by kernel_rfl) (fun _ _ _ h => h) (Or.inl ⟨by rfl, ?_⟩) hHeld ?_
  rotate_left
  · intro w hSw
    try dsimp only at hSw
    go_simp
    try with_reducible rfl
  try simp only [Act.put, List.setIfInBounds_toArray, List.set_cons_zero, List.set_cons_succ]
  refine wpAnyH_ready (rs := [31]) (by kernel_rfl) (by simp) ?_
  refine AllReadyH.cons (o := ⟨some 142, _, _, _, _, _⟩) rfl (fun K hK => ?_) AllReadyH.nil
  go_simp
  refine (ends_open).mono ?_
  rintro e w' ⟨rfl, K'⟩
  refine hK.out _ _ (s6 H H1 H2 H3 H4 H5 (Below.then_ (sB hHeld) K')) (fun hHeld' => ?_)
  clear hHeld K' hK
  clear K
  have hHeld := hHeld'
  clear hHeld'
  try simp only [Act.put, List.setIfInBounds_toArray, List.set_cons_zero, List.set_cons_succ]
  refine wpAnyH_take (i := 34) (oi := ⟨some 145, _, _, _, _, _⟩) (v := ?_) rfl (by kernel_rfl) (by kernel_rfl) (by kernel_rfl) (fun _ _ _ h => h) (Or.inl ⟨by rfl, ?_⟩) hHeld ?_
  rotate_left
  · intro w hSw
    try dsimp only at hSw
    go_simp
    try with_reducible rfl
  try simp only [Act.put, List.setIfInBounds_toArray, List.set_cons_zero, List.set_cons_succ]
  refine wpAnyH_take (i := 35) (oi := ⟨some 146, _, _, _, _, _⟩) (v := undef) rfl (by kernel_rfl) (by kernel_rfl) (by kernel_rfl) (fun _ _ _ h => h) (Or.inr ⟨by rfl, rfl⟩) hHeld ?_
  try simp only [Act.put, List.setIfInBounds_toArray, List.set_cons_zero, List.set_cons_succ]
  refine wpAnyH_take (i := 36) (oi := ⟨some 147, _, _, _, _, _⟩) (v := undef) rfl (by kernel_rfl) (by kernel_rfl) (by kernel_rfl) (fun _ _ _ h => h) (Or.inr ⟨by rfl, rfl⟩) hHeld ?_
  try simp only [Act.put, List.setIfInBounds_toArray, List.set_cons_zero, List.set_cons_succ]
  refine wpAnyH_take (i := 37) (oi := ⟨some 148, _, _, _, _, _⟩) (v := undef) rfl (by kernel_rfl) (by kernel_rfl) (by kernel_rfl) (fun _ _ _ h => h) (Or.inr ⟨by rfl, rfl⟩) hHeld ?_
  try simp only [Act.put, List.setIfInBounds_toArray, List.set_cons_zero, List.set_cons_succ]
  refine wpAnyH_take (i := 38) (oi := ⟨some 149, _, _, _, _, _⟩) (v := undef) rfl (by kernel_rfl) (by kernel_rfl) (by kernel_rfl) (fun _ _ _ h => h) (Or.inr ⟨by rfl, rfl⟩) hHeld ?_
  try simp only [Act.put, List.setIfInBounds_toArray, List.set_cons_zero, List.set_cons_succ]
  refine wpAnyH_take (i := 39) (oi := ⟨some 150, _, _, _, _, _⟩) (v := ?_) rfl (by kernel_rfl) (by kernel_rfl) (by kernel_rfl) (fun _ _ _ h => h) (Or.inl ⟨by rfl, ?_⟩) hHeld ?_
  rotate_left
  · intro w hSw
    try dsimp only at hSw
    go_simp
    try with_reducible rfl
  try simp only [Act.put, List.setIfInBounds_toArray, List.set_cons_zero, List.set_cons_succ]
  refine wpAnyH_take (i := 40) (oi := ⟨some 151, _, _, _, _, _⟩) (v := ?_) rfl (by kernel_rfl) (by kernel_rfl) (by kernel_rfl) (fun _ _ _ h => h) (Or.inl ⟨by rfl, ?_⟩) hHeld ?_
  rotate_left
  · intro w hSw
    try dsimp only at hSw
    go_simp
    try with_reducible rfl
  try simp only [Act.put, List.setIfInBounds_toArray, List.set_cons_zero, List.set_cons_succ]
  refine wpAnyH_take (i := 41) (oi := ⟨some 152, _, _, _, _, _⟩) (v := ?_) rfl (by kernel_rfl) (by kernel_rfl) (by kernel_rfl) (fun _ _ _ h => h) (Or.inl ⟨by rfl, ?_⟩) hHeld ?_
  rotate_left
  · intro w hSw
    try dsimp only at hSw
    go_simp
    try with_reducible rfl
  try simp only [Act.put, List.setIfInBounds_toArray, List.set_cons_zero, List.set_cons_succ]
  refine wpAnyH_take (i := 42) (oi := ⟨some 6, _, _, _, _, _⟩) (v := ?_) rfl (by kernel_rfl) (by kernel_rfl) (by kernel_rfl) (fun _ _ _ h => h) (Or.inl ⟨by rfl, ?_⟩) hHeld ?_
  rotate_left
  · intro w hSw
    try dsimp only at hSw
    go_simp
    try with_reducible rfl
  try simp only [Act.put, List.setIfInBounds_toArray, List.set_cons_zero, List.set_cons_succ]
  refine wpAnyH_done (by kernel_rfl) ?_ _
  go_wp2
  go_ret
  exact ⟨rfl, Below.then_ KK (sB hHeld)⟩
set_option maxRecDepth 100000 in
set_option maxHeartbeats 2000000 in
theorem yes_lt_false (m : Int) (A : Option Addr) (n c : Nat) (xs : List Int) (x most : Int) (w : World) (I : IS .i64 0 w A n c xs) (hn : n ≤ 200) (h1 : most < 1) (hm : mayB m n = true) :
    Calls Try.prog 3 #[.agg #[.int .i64 m, .slice A n c, .bool false], .int .i64 x, .int .i64 most] w fun e w' => e = .returned (.bool true) ∧ Below w.heap.size w w' := by
  have hd : decide ((200 : Int) < (n : Int)) = false := by simp; omega
  have K := below_alloc w (.cells #[.int .i64 m, .slice A n c, .bool false] 24)
  replace I := I.below K
  have H := Q3.new w (.int .i64 m) (.slice A n c) (.bool false)
  have hg : w.heap.size < (w.alloc (.cells #[.int .i64 m, .slice A n c, .bool false] 24)).heap.size := H.lt
  have hnm : (n : Int) ≤ m := by unfold mayB at hm; simp at hm; omega
  have HM := Lib.hid hm
  clear hm
  have eb : (mayB m n != mayB m n) = false := by simp
  go_enter Try.func3, Try.ntmps3
  go_wp2_with fail
  generalize w.alloc (.cells #[.int .i64 m, .slice A n c, .bool false] 24) = w1 at H I K hg ⊢
  generalize w.heap.size = g at H hg ⊢
  have q0 := H.c0
  have q1 := H.c1
  have q2 := H.c2
  go_region_held3 (fun w' => w'.cell? ⟨g, 0, none⟩ = some (.int .i64 m) ∧ w'.cell? ⟨g, 1, none⟩ = some (.slice A n c) ∧ w'.cell? ⟨g, 2, none⟩ = some (.bool false) ∧ Below w1.heap.size w1 w') (first | exact ⟨q0, q1, q2, (Below.refl _ _).drew⟩ | exact s_step (by assumption) hg K')
    (first | (go_at_call 6; refine (awake_any _).mono ?_; rintro e w' ⟨rfl, K'⟩) | (go_at_call 7; refine (may_any _ _ _ _ _ _).mono ?_; rintro e w' ⟨rfl, K'⟩) | (go_at_call 8; refine (rmay_any _ _ _ _ _ _).mono ?_; rintro e w' ⟨rfl, K'⟩))
  rename_i hS
  have L := hS.2.2.2
  clear hS K' eb q0 q1 q2
  replace H := H.below L
  replace I := I.below L
  replace K := Below.then_ K L
  clear L hg
  go_wp2_with fail
  refine (new_no (m := most) (by omega) _).mono ?_
  rintro e w2 ⟨rfl, K'⟩
  replace H := H.below K'
  replace I := I.below K'
  replace K := Below.then_ K K'
  clear K'
  go_wp2_with fail
  refine (same_any (IS.none_ .i64 0 _) (IS.none_ .i64 0 _) (by decide)).mono ?_
  rintro e w3 ⟨rfl, K'⟩
  replace H := (H.alloc _).below K'
  replace I := (I.below (below_alloc _ _)).below K'
  have Hn := (Q3.new w2 (.int .i64 0) (.slice none 0 0) (.bool false)).below K'
  replace K := Below.then_ (Below.then_ K (below_alloc _ _)) K'
  clear K'
  clear Hn
  have H_0 := H.c0
  have H_1 := H.c1
  have H_2 := H.c2
  have H_z := H.lt
  go_wp2_with fail
  refine (rmay_is HM.out).mono ?_
  rintro e w4 ⟨rfl, K'⟩
  clear H_0 H_1 H_2 H_z
  replace H := H.below K'
  replace I := I.below K'
  replace K := Below.then_ K K'
  clear K'
  have H_0 := H.c0
  have H_1 := H.c1
  have H_2 := H.c2
  have H_z := H.lt
  go_wp2_with fail
  refine (put_any (m := m) (x := x) (cl := false) I (by omega)).mono ?_
  rintro e w5 ⟨A1, c1, rfl, I1, K'⟩
  clear H_0 H_1 H_2 H_z
  replace H := H.below K'
  replace I := I.below K'
  replace K := Below.then_ K K'
  clear K'
  have H_0 := H.c0
  have H_1 := H.c1
  have H_2 := H.c2
  have H_z := H.lt
  go_wp2_with fail
  refine (rput_any (m := m) (x := x) (cl := false) (I.below (below_alloc _ _)) hnm (by omega)).mono ?_
  rintro e w6 ⟨A2, c2, rfl, I2, K'⟩
  clear H_0 H_1 H_2 H_z
  replace H := (H.alloc _).below K'
  replace I := (I.below (below_alloc _ _)).below K'
  replace I1 := (I1.below (below_alloc _ _)).below K'
  have H1 := (Q3.new w5 (.int .i64 m) (.slice A1 (putN m n false) c1) (.bool false)).below K'
  replace K := Below.then_ (Below.then_ K (below_alloc _ _)) K'
  clear K'
  have H_0 := H.c0
  have H_1 := H.c1
  have H_2 := H.c2
  have H_z := H.lt
  go_wp2_with fail
  refine (take_any (I.below (below_alloc _ _)) (by omega)).mono ?_
  rintro e w7 ⟨A3, c3, rfl, I3, K'⟩
  clear H_0 H_1 H_2 H_z
  replace H := (H.alloc _).below K'
  replace H1 := (H1.alloc _).below K'
  replace I := (I.below (below_alloc _ _)).below K'
  replace I1 := (I1.below (below_alloc _ _)).below K'
  replace I2 := (I2.below (below_alloc _ _)).below K'
  have H2 := (Q3.new w6 (.int .i64 m) (.slice A2 (putN m n false) c2) (.bool false)).below K'
  replace K := Below.then_ (Below.then_ K (below_alloc _ _)) K'
  clear K'
  have H_0 := H.c0
  have H_1 := H.c1
  have H_2 := H.c2
  have H_z := H.lt
  go_wp2_with fail
  refine (rtake_any (I.below (below_alloc _ _)) (by omega)).mono ?_
  rintro e w8 ⟨A4, c4, rfl, I4, K'⟩
  clear H_0 H_1 H_2 H_z
  replace H := (H.alloc _).below K'
  replace H1 := (H1.alloc _).below K'
  replace H2 := (H2.alloc _).below K'
  replace I := (I.below (below_alloc _ _)).below K'
  replace I1 := (I1.below (below_alloc _ _)).below K'
  replace I2 := (I2.below (below_alloc _ _)).below K'
  replace I3 := (I3.below (below_alloc _ _)).below K'
  have H3 := (Q3.new w7 (.int .i64 m) (.slice A3 (n - 1) c3) (.bool false)).below K'
  replace K := Below.then_ (Below.then_ K (below_alloc _ _)) K'
  clear K'
  have H_0 := H.c0
  have H_1 := H.c1
  have H_2 := H.c2
  have H_z := H.lt
  go_wp2_with fail
  clear H_0 H_1 H_2 H_z
  replace H := (H.alloc (.cells #[.int .i64 m, .slice A4 (n - 1) c4, .bool false] 24)).alloc (.cells #[.int .i64 m, .slice A n c, .bool true] 24)
  replace H1 := (H1.alloc (.cells #[.int .i64 m, .slice A4 (n - 1) c4, .bool false] 24)).alloc (.cells #[.int .i64 m, .slice A n c, .bool true] 24)
  replace H2 := (H2.alloc (.cells #[.int .i64 m, .slice A4 (n - 1) c4, .bool false] 24)).alloc (.cells #[.int .i64 m, .slice A n c, .bool true] 24)
  replace H3 := (H3.alloc (.cells #[.int .i64 m, .slice A4 (n - 1) c4, .bool false] 24)).alloc (.cells #[.int .i64 m, .slice A n c, .bool true] 24)
  have H4 := (Q3.new w8 (.int .i64 m) (.slice A4 (n - 1) c4) (.bool false)).alloc (.cells #[.int .i64 m, .slice A n c, .bool true] 24)
  have H5 := Q3.new (w8.alloc (.cells #[.int .i64 m, .slice A4 (n - 1) c4, .bool false] 24)) (.int .i64 m) (.slice A n c) (.bool true)
  simp only [World.size_alloc] at H5
  have L := Below.then_ (below_alloc w8 (.cells #[.int .i64 m, .slice A4 (n - 1) c4, .bool false] 24)) (below_alloc _ (.cells #[.int .i64 m, .slice A n c, .bool true] 24))
  replace I := I.below L
  replace I1 := I1.below L
  replace I2 := I2.below L
  replace I3 := I3.below L
  replace I4 := I4.below L
  replace K := Below.then_ K L
  clear L
  generalize (w8.alloc (.cells #[.int .i64 m, .slice A4 (n - 1) c4, .bool false] 24)).alloc (.cells #[.int .i64 m, .slice A n c, .bool true] 24) = w9 at H H1 H2 H3 H4 H5 I I1 I2 I3 I4 K ⊢
  generalize w5.heap.size = g1 at H1 ⊢
  generalize w6.heap.size = g2 at H2 ⊢
  generalize w7.heap.size = g3 at H3 ⊢
  generalize w8.heap.size + 1 = g5 at H5 ⊢
  generalize w8.heap.size = g4 at H4 ⊢
  have KK := K
  clear K
  have e1 : (putE m n false == putE m n false) = true := by simp
  have e2 : (gi xs 0 == gi xs 0) = true := by simp
  have e3 : (tkB n == tkB n) = true := by simp
  refine wp_region_held_drew (S := (fun w' => Below w9.heap.size w9 w' ∧ w'.cell? ⟨g, 0, none⟩ = some (.int .i64 m) ∧ w'.cell? ⟨g, 1, none⟩ = some (.slice A n c) ∧ w'.cell? ⟨g, 2, none⟩ = some (.bool false) ∧ w'.cell? ⟨g1, 0, none⟩ = some (.int .i64 m) ∧ w'.cell? ⟨g1, 1, none⟩ = some (.slice A1 (putN m n false) c1) ∧ w'.cell? ⟨g1, 2, none⟩ = some (.bool false) ∧ w'.cell? ⟨g2, 0, none⟩ = some (.int .i64 m) ∧ w'.cell? ⟨g2, 1, none⟩ = some (.slice A2 (putN m n false) c2) ∧ w'.cell? ⟨g2, 2, none⟩ = some (.bool false) ∧ w'.cell? ⟨g3, 0, none⟩ = some (.int .i64 m) ∧ w'.cell? ⟨g3, 1, none⟩ = some (.slice A3 (n - 1) c3) ∧ w'.cell? ⟨g3, 2, none⟩ = some (.bool false) ∧ w'.cell? ⟨g4, 0, none⟩ = some (.int .i64 m) ∧ w'.cell? ⟨g4, 1, none⟩ = some (.slice A4 (n - 1) c4) ∧ w'.cell? ⟨g4, 2, none⟩ = some (.bool false) ∧ w'.cell? ⟨g5, 0, none⟩ = some (.int .i64 m) ∧ w'.cell? ⟨g5, 1, none⟩ = some (.slice A n c) ∧ w'.cell? ⟨g5, 2, none⟩ = some (.bool true))) (by kernel_rfl) (s6 H H1 H2 H3 H4 H5 (Below.refl _ _).drew) (fun hHeld => ?_)
  refine wpAnyH_take (i := 0) (oi := ⟨some 111, _, _, _, _, _⟩) (v := ?_) rfl (by kernel_rfl) (by kernel_rfl) (by kernel_rfl) (fun _ _ _ h => h) (Or.inl ⟨by rfl, ?_⟩) hHeld ?_
  rotate_left
  · intro w hSw
    try dsimp only at hSw
    go_simp
    try with_reducible rfl
  try simp only [Act.put, List.setIfInBounds_toArray, List.set_cons_zero, List.set_cons_succ]
  refine wpAnyH_take (i := 1) (oi := ⟨some 112, _, _, _, _, _⟩) (v := ?_) rfl (by kernel_rfl) (by kernel_rfl) (by kernel_rfl) (fun _ _ _ h => h) (Or.inl ⟨by rfl, ?_⟩) hHeld ?_
  rotate_left
  · intro w hSw
    try dsimp only at hSw
    go_simp
    try with_reducible rfl
  try simp only [Act.put, List.setIfInBounds_toArray, List.set_cons_zero, List.set_cons_succ]
  refine wpAnyH_ready (rs := [2]) (by kernel_rfl) (by simp) ?_
  refine AllReadyH.cons (o := ⟨some 113, _, _, _, _, _⟩) rfl (fun K hK => ?_) AllReadyH.nil
  go_simp
  refine (same_any (I1.below (sB hHeld)) (I2.below (sB hHeld)) (putN_le false hn)).mono ?_
  rintro e w' ⟨rfl, K'⟩
  refine hK.out _ _ (s6 H H1 H2 H3 H4 H5 (Below.then_ (sB hHeld) K')) (fun hHeld' => ?_)
  clear hHeld K' hK
  clear K
  have hHeld := hHeld'
  clear hHeld'
  try simp only [Act.put, List.setIfInBounds_toArray, List.set_cons_zero, List.set_cons_succ]
  refine wpAnyH_take (i := 3) (oi := ⟨some 114, _, _, _, _, _⟩) (v := ?_) rfl (by kernel_rfl) (by kernel_rfl) (by kernel_rfl) (fun _ _ _ h => h) (Or.inl ⟨by rfl, ?_⟩) hHeld ?_
  rotate_left
  · intro w hSw
    try dsimp only at hSw
    go_simp
    try with_reducible rfl
  try simp only [Act.put, List.setIfInBounds_toArray, List.set_cons_zero, List.set_cons_succ]
  refine wpAnyH_take (i := 4) (oi := ⟨some 115, _, _, _, _, _⟩) (v := ?_) rfl (by kernel_rfl) (by kernel_rfl) (by kernel_rfl) (fun _ _ _ h => h) (Or.inl ⟨by rfl, ?_⟩) hHeld ?_
  rotate_left
  · intro w hSw
    try dsimp only at hSw
    go_simp
    try with_reducible rfl
  try simp only [Act.put, List.setIfInBounds_toArray, List.set_cons_zero, List.set_cons_succ]
  refine wpAnyH_take (i := 5) (oi := ⟨some 116, _, _, _, _, _⟩) (v := ?_) rfl (by kernel_rfl) (by kernel_rfl) (by kernel_rfl) (fun _ _ _ h => h) (Or.inl ⟨by rfl, ?_⟩) hHeld ?_
  rotate_left
  · intro w hSw
    try dsimp only at hSw
    go_simp
    try with_reducible rfl
  try simp only [Act.put, List.setIfInBounds_toArray, List.set_cons_zero, List.set_cons_succ]
  refine wpAnyH_take (i := 6) (oi := ⟨some 117, _, _, _, _, _⟩) (v := ?_) rfl (by kernel_rfl) (by kernel_rfl) (by kernel_rfl) (fun _ _ _ h => h) (Or.inl ⟨by rfl, ?_⟩) hHeld ?_
  rotate_left
  · intro w hSw
    try dsimp only at hSw
    go_simp
    try with_reducible rfl
  try simp only [Act.put, List.setIfInBounds_toArray, List.set_cons_zero, List.set_cons_succ]
  refine wpAnyH_take (i := 7) (oi := ⟨some 118, _, _, _, _, _⟩) (v := ?_) rfl (by kernel_rfl) (by kernel_rfl) (by kernel_rfl) (fun _ _ _ h => h) (Or.inl ⟨by rfl, ?_⟩) hHeld ?_
  rotate_left
  · intro w hSw
    try dsimp only at hSw
    go_simp
    try with_reducible rfl
  try simp only [Act.put, List.setIfInBounds_toArray, List.set_cons_zero, List.set_cons_succ]
  refine wpAnyH_take (i := 8) (oi := ⟨some 119, _, _, _, _, _⟩) (v := ?_) rfl (by kernel_rfl) (by kernel_rfl) (by kernel_rfl) (fun _ _ _ h => h) (Or.inl ⟨by rfl, ?_⟩) hHeld ?_
  rotate_left
  · intro w hSw
    try dsimp only at hSw
    go_simp
    try with_reducible rfl
  try simp only [Act.put, List.setIfInBounds_toArray, List.set_cons_zero, List.set_cons_succ]
  refine wpAnyH_take (i := 9) (oi := ⟨some 120, _, _, _, _, _⟩) (v := ?_) rfl (by kernel_rfl) (by kernel_rfl) (by kernel_rfl) (fun _ _ _ h => h) (Or.inl ⟨by rfl, ?_⟩) hHeld ?_
  rotate_left
  · intro w hSw
    try dsimp only at hSw
    go_simp
    try with_reducible rfl
  try simp only [Act.put, List.setIfInBounds_toArray, List.set_cons_zero, List.set_cons_succ]
  refine wpAnyH_take (i := 10) (oi := ⟨some 121, _, _, _, _, _⟩) (v := ?_) rfl (by kernel_rfl) (by kernel_rfl) (by kernel_rfl) (fun _ _ _ h => h) (Or.inl ⟨by rfl, ?_⟩) hHeld ?_
  rotate_left
  · intro w hSw
    try dsimp only at hSw
    go_simp
    try with_reducible rfl
  try simp only [Act.put, List.setIfInBounds_toArray, List.set_cons_zero, List.set_cons_succ]
  refine wpAnyH_ready (rs := [11]) (by kernel_rfl) (by simp) ?_
  refine AllReadyH.cons (o := ⟨some 122, _, _, _, _, _⟩) rfl (fun K hK => ?_) AllReadyH.nil
  go_simp
  refine (same_any (I3.below (sB hHeld)) (I4.below (sB hHeld)) (by omega)).mono ?_
  rintro e w' ⟨rfl, K'⟩
  refine hK.out _ _ (s6 H H1 H2 H3 H4 H5 (Below.then_ (sB hHeld) K')) (fun hHeld' => ?_)
  clear hHeld K' hK
  clear K
  have hHeld := hHeld'
  clear hHeld'
  try simp only [Act.put, List.setIfInBounds_toArray, List.set_cons_zero, List.set_cons_succ]
  refine wpAnyH_take (i := 12) (oi := ⟨some 123, _, _, _, _, _⟩) (v := ?_) rfl (by kernel_rfl) (by kernel_rfl) (by kernel_rfl) (fun _ _ _ h => h) (Or.inl ⟨by rfl, ?_⟩) hHeld ?_
  rotate_left
  · intro w hSw
    try dsimp only at hSw
    go_simp
    try with_reducible rfl
  try simp only [Act.put, List.setIfInBounds_toArray, List.set_cons_zero, List.set_cons_succ]
  refine wpAnyH_take (i := 13) (oi := ⟨some 124, _, _, _, _, _⟩) (v := ?_) rfl (by kernel_rfl) (by kernel_rfl) (by kernel_rfl) (fun _ _ _ h => h) (Or.inl ⟨by rfl, ?_⟩) hHeld ?_
  rotate_left
  · intro w hSw
    try dsimp only at hSw
    go_simp
    try with_reducible rfl
  try simp only [Act.put, List.setIfInBounds_toArray, List.set_cons_zero, List.set_cons_succ]
  refine wpAnyH_take (i := 14) (oi := ⟨some 125, _, _, _, _, _⟩) (v := ?_) rfl (by kernel_rfl) (by kernel_rfl) (by kernel_rfl) (fun _ _ _ h => h) (Or.inl ⟨by rfl, ?_⟩) hHeld ?_
  rotate_left
  · intro w hSw
    try dsimp only at hSw
    go_simp
    try with_reducible rfl
  try simp only [Act.put, List.setIfInBounds_toArray, List.set_cons_zero, List.set_cons_succ]
  refine wpAnyH_take (i := 15) (oi := ⟨some 126, _, _, _, _, _⟩) (v := ?_) rfl (by kernel_rfl) (by kernel_rfl) (by kernel_rfl) (fun _ _ _ h => h) (Or.inl ⟨by rfl, ?_⟩) hHeld ?_
  rotate_left
  · intro w hSw
    try dsimp only at hSw
    go_simp
    try with_reducible rfl
  try simp only [Act.put, List.setIfInBounds_toArray, List.set_cons_zero, List.set_cons_succ]
  refine wpAnyH_take (i := 16) (oi := ⟨some 127, _, _, _, _, _⟩) (v := ?_) rfl (by kernel_rfl) (by kernel_rfl) (by kernel_rfl) (fun _ _ _ h => h) (Or.inl ⟨by rfl, ?_⟩) hHeld ?_
  rotate_left
  · intro w hSw
    try dsimp only at hSw
    go_simp
    try with_reducible rfl
  try simp only [Act.put, List.setIfInBounds_toArray, List.set_cons_zero, List.set_cons_succ]
  refine wpAnyH_take (i := 17) (oi := ⟨some 128, _, _, _, _, _⟩) (v := ?_) rfl (by kernel_rfl) (by kernel_rfl) (by kernel_rfl) (fun _ _ _ h => h) (Or.inl ⟨by rfl, ?_⟩) hHeld ?_
  rotate_left
  · intro w hSw
    try dsimp only at hSw
    go_simp
    try with_reducible rfl
  try simp only [Act.put, List.setIfInBounds_toArray, List.set_cons_zero, List.set_cons_succ]
  refine wpAnyH_take (i := 18) (oi := ⟨some 129, _, _, _, _, _⟩) (v := ?_) rfl (by kernel_rfl) (by kernel_rfl) (by kernel_rfl) (fun _ _ _ h => h) (Or.inl ⟨by rfl, ?_⟩) hHeld ?_
  rotate_left
  · intro w hSw
    try dsimp only at hSw
    go_simp
    try with_reducible rfl
  try simp only [Act.put, List.setIfInBounds_toArray, List.set_cons_zero, List.set_cons_succ]
  refine wpAnyH_take (i := 19) (oi := ⟨some 130, _, _, _, _, _⟩) (v := ?_) rfl (by kernel_rfl) (by kernel_rfl) (by kernel_rfl) (fun _ _ _ h => h) (Or.inl ⟨by rfl, ?_⟩) hHeld ?_
  rotate_left
  · intro w hSw
    try dsimp only at hSw
    go_simp
    try with_reducible rfl
  try simp only [Act.put, List.setIfInBounds_toArray, List.set_cons_zero, List.set_cons_succ]
  refine wpAnyH_take (i := 20) (oi := ⟨some 131, _, _, _, _, _⟩) (v := ?_) rfl (by kernel_rfl) (by kernel_rfl) (by kernel_rfl) (fun _ _ _ h => h) (Or.inl ⟨by rfl, ?_⟩) hHeld ?_
  rotate_left
  · intro w hSw
    try dsimp only at hSw
    go_simp
    try with_reducible rfl
  try simp only [Act.put, List.setIfInBounds_toArray, List.set_cons_zero, List.set_cons_succ]
  refine wpAnyH_take (i := 21) (oi := ⟨some 132, _, _, _, _, _⟩) (v := ?_) rfl (by kernel_rfl) (by kernel_rfl) (by kernel_rfl) (fun _ _ _ h => h) (Or.inl ⟨by rfl, ?_⟩) hHeld ?_
  rotate_left
  · intro w hSw
    try dsimp only at hSw
    go_simp
    try with_reducible rfl
  try simp only [Act.put, List.setIfInBounds_toArray, List.set_cons_zero, List.set_cons_succ]
  refine wpAnyH_take (i := 22) (oi := ⟨some 133, _, _, _, _, _⟩) (v := ?_) rfl (by kernel_rfl) (by kernel_rfl) (by kernel_rfl) (fun _ _ _ h => h) (Or.inl ⟨by rfl, ?_⟩) hHeld ?_
  rotate_left
  · intro w hSw
    try dsimp only at hSw
    go_simp
    try with_reducible rfl
  try simp only [Act.put, List.setIfInBounds_toArray, List.set_cons_zero, List.set_cons_succ]
  refine wpAnyH_take (i := 23) (oi := ⟨some 134, _, _, _, _, _⟩) (v := ?_) rfl (by kernel_rfl) (by kernel_rfl) (by kernel_rfl) (fun _ _ _ h => h) (Or.inl ⟨by rfl, ?_⟩) hHeld ?_
  rotate_left
  · intro w hSw
    try dsimp only at hSw
    go_simp
    try with_reducible rfl
  try simp only [Act.put, List.setIfInBounds_toArray, List.set_cons_zero, List.set_cons_succ]
  refine wpAnyH_take (i := 24) (oi := ⟨some 135, _, _, _, _, _⟩) (v := ?_) rfl (by kernel_rfl) (by kernel_rfl) (by kernel_rfl) (fun _ _ _ h => h) (Or.inl ⟨by rfl, ?_⟩) hHeld ?_
  rotate_left
  · intro w hSw
    try dsimp only at hSw
    go_simp
    try with_reducible rfl
  try simp only [Act.put, List.setIfInBounds_toArray, List.set_cons_zero, List.set_cons_succ]
  refine wpAnyH_take (i := 26) (oi := ⟨some 137, _, _, _, _, _⟩) (v := ?_) rfl (by kernel_rfl) (by kernel_rfl) (by kernel_rfl) (fun _ _ _ h => h) (Or.inl ⟨by rfl, ?_⟩) hHeld ?_
  rotate_left
  · intro w hSw
    try dsimp only at hSw
    go_simp
    try with_reducible rfl
  try simp only [Act.put, List.setIfInBounds_toArray, List.set_cons_zero, List.set_cons_succ]
  refine wpAnyH_ready (rs := [25]) (by kernel_rfl) (by simp) ?_
  refine AllReadyH.cons (o := ⟨some 136, _, _, _, _, _⟩) rfl (fun K hK => ?_) AllReadyH.nil
  go_simp
  refine (close_any (I.below (sB hHeld)) (by omega)).mono ?_
  rintro e w' ⟨A6, c6, rfl, I6, K'⟩
  refine hK.out _ _ (s6 H H1 H2 H3 H4 H5 (Below.then_ (sB hHeld) K')) (fun hHeld' => ?_)
  clear hHeld K' hK
  clear K
  have hHeld := hHeld'
  clear hHeld'
  try simp only [Act.put, List.setIfInBounds_toArray, List.set_cons_zero, List.set_cons_succ]
  refine wpAnyH_ready (rs := [27]) (by kernel_rfl) (by simp) ?_
  refine AllReadyH.cons (o := ⟨some 138, _, _, _, _, _⟩) rfl (fun K hK => ?_) AllReadyH.nil
  go_simp
  refine (same_any I6 (I.below (sB hHeld)) (by omega)).mono ?_
  rintro e w' ⟨rfl, K'⟩
  refine hK.out _ _ (s6 H H1 H2 H3 H4 H5 (Below.then_ (sB hHeld) K')) (fun hHeld' => ?_)
  clear hHeld K' hK
  clear K
  have hHeld := hHeld'
  clear hHeld'
  try simp only [Act.put, List.setIfInBounds_toArray, List.set_cons_zero, List.set_cons_succ]
  refine wpAnyH_take (i := 28) (oi := ⟨some 139, _, _, _, _, _⟩) (v := ?_) rfl (by kernel_rfl) (by kernel_rfl) (by kernel_rfl) (fun _ _ _ h => h) (Or.inl ⟨by rfl, ?_⟩) hHeld ?_
  rotate_left
  · intro w hSw
    try dsimp only at hSw
    go_simp
    try with_reducible rfl
  try simp only [Act.put, List.setIfInBounds_toArray, List.set_cons_zero, List.set_cons_succ]
  refine wpAnyH_take (i := 29) (oi := ⟨some 140, _, _, _, _, _⟩) (v := ?_) rfl (by kernel_rfl) (by kernel_rfl) (by kernel_rfl) (fun _ _ _ h => h) (Or.inl ⟨by rfl, ?_⟩) hHeld ?_
  rotate_left
  · intro w hSw
    try dsimp only at hSw
    go_simp
    try with_reducible rfl
  try simp only [Act.put, List.setIfInBounds_toArray, List.set_cons_zero, List.set_cons_succ]
  refine wpAnyH_take (i := 30) (oi := ⟨some 141, _, _, _, _, _⟩) (v := ?_) rfl (by kernel_rfl) (by kernel_rfl) (by kernel_rfl) (fun _ _ _ h => h) (Or.inl ⟨by rfl, ?_⟩) hHeld ?_
  rotate_left
  · intro w hSw
    try dsimp only at hSw
    go_simp
    try with_reducible rfl
  try simp only [Act.put, List.setIfInBounds_toArray, List.set_cons_zero, List.set_cons_succ]
  refine wpAnyH_take (i := 32) (oi := ⟨some 143, _, _, _, _, _⟩) (v := ?_) rfl (by kernel_rfl) (by kernel_rfl) (by kernel_rfl) (fun _ _ _ h => h) (Or.inl ⟨by rfl, ?_⟩) hHeld ?_
  rotate_left
  · intro w hSw
    try dsimp only at hSw
    go_simp
    try with_reducible rfl
  try simp only [Act.put, List.setIfInBounds_toArray, List.set_cons_zero, List.set_cons_succ]
  refine wpAnyH_take (i := 33) (oi := ⟨some 144, _, _, _, _, _⟩) (v := ?_) rfl (by kernel_rfl) (by kernel_rfl) (by kernel_rfl) (fun _ _ _ h => h) (Or.inl ⟨by rfl, ?_⟩) hHeld ?_
  rotate_left
  · intro w hSw
    try dsimp only at hSw
    go_simp
    try with_reducible rfl
  try simp only [Act.put, List.setIfInBounds_toArray, List.set_cons_zero, List.set_cons_succ]
  refine wpAnyH_ready (rs := [31]) (by kernel_rfl) (by simp) ?_
  refine AllReadyH.cons (o := ⟨some 142, _, _, _, _, _⟩) rfl (fun K hK => ?_) AllReadyH.nil
  go_simp
  refine (ends_open).mono ?_
  rintro e w' ⟨rfl, K'⟩
  refine hK.out _ _ (s6 H H1 H2 H3 H4 H5 (Below.then_ (sB hHeld) K')) (fun hHeld' => ?_)
  clear hHeld K' hK
  clear K
  have hHeld := hHeld'
  clear hHeld'
  try simp only [Act.put, List.setIfInBounds_toArray, List.set_cons_zero, List.set_cons_succ]
  refine wpAnyH_take (i := 34) (oi := ⟨some 145, _, _, _, _, _⟩) (v := ?_) rfl (by kernel_rfl) (by kernel_rfl) (by kernel_rfl) (fun _ _ _ h => h) (Or.inl ⟨by rfl, ?_⟩) hHeld ?_
  rotate_left
  · intro w hSw
    try dsimp only at hSw
    go_simp
    try with_reducible rfl
  try simp only [Act.put, List.setIfInBounds_toArray, List.set_cons_zero, List.set_cons_succ]
  refine wpAnyH_take (i := 35) (oi := ⟨some 146, _, _, _, _, _⟩) (v := undef) rfl (by kernel_rfl) (by kernel_rfl) (by kernel_rfl) (fun _ _ _ h => h) (Or.inr ⟨by rfl, rfl⟩) hHeld ?_
  try simp only [Act.put, List.setIfInBounds_toArray, List.set_cons_zero, List.set_cons_succ]
  refine wpAnyH_take (i := 36) (oi := ⟨some 147, _, _, _, _, _⟩) (v := undef) rfl (by kernel_rfl) (by kernel_rfl) (by kernel_rfl) (fun _ _ _ h => h) (Or.inr ⟨by rfl, rfl⟩) hHeld ?_
  try simp only [Act.put, List.setIfInBounds_toArray, List.set_cons_zero, List.set_cons_succ]
  refine wpAnyH_take (i := 37) (oi := ⟨some 148, _, _, _, _, _⟩) (v := undef) rfl (by kernel_rfl) (by kernel_rfl) (by kernel_rfl) (fun _ _ _ h => h) (Or.inr ⟨by rfl, rfl⟩) hHeld ?_
  try simp only [Act.put, List.setIfInBounds_toArray, List.set_cons_zero, List.set_cons_succ]
  refine wpAnyH_take (i := 38) (oi := ⟨some 149, _, _, _, _, _⟩) (v := undef) rfl (by kernel_rfl) (by kernel_rfl) (by kernel_rfl) (fun _ _ _ h => h) (Or.inr ⟨by rfl, rfl⟩) hHeld ?_
  try simp only [Act.put, List.setIfInBounds_toArray, List.set_cons_zero, List.set_cons_succ]
  refine wpAnyH_take (i := 39) (oi := ⟨some 150, _, _, _, _, _⟩) (v := ?_) rfl (by kernel_rfl) (by kernel_rfl) (by kernel_rfl) (fun _ _ _ h => h) (Or.inl ⟨by rfl, ?_⟩) hHeld ?_
  rotate_left
  · intro w hSw
    try dsimp only at hSw
    go_simp
    try with_reducible rfl
  try simp only [Act.put, List.setIfInBounds_toArray, List.set_cons_zero, List.set_cons_succ]
  refine wpAnyH_take (i := 40) (oi := ⟨some 151, _, _, _, _, _⟩) (v := ?_) rfl (by kernel_rfl) (by kernel_rfl) (by kernel_rfl) (fun _ _ _ h => h) (Or.inl ⟨by rfl, ?_⟩) hHeld ?_
  rotate_left
  · intro w hSw
    try dsimp only at hSw
    go_simp
    try with_reducible rfl
  try simp only [Act.put, List.setIfInBounds_toArray, List.set_cons_zero, List.set_cons_succ]
  refine wpAnyH_take (i := 41) (oi := ⟨some 152, _, _, _, _, _⟩) (v := ?_) rfl (by kernel_rfl) (by kernel_rfl) (by kernel_rfl) (fun _ _ _ h => h) (Or.inl ⟨by rfl, ?_⟩) hHeld ?_
  rotate_left
  · intro w hSw
    try dsimp only at hSw
    go_simp
    try with_reducible rfl
  try simp only [Act.put, List.setIfInBounds_toArray, List.set_cons_zero, List.set_cons_succ]
  refine wpAnyH_take (i := 42) (oi := ⟨some 6, _, _, _, _, _⟩) (v := ?_) rfl (by kernel_rfl) (by kernel_rfl) (by kernel_rfl) (fun _ _ _ h => h) (Or.inl ⟨by rfl, ?_⟩) hHeld ?_
  rotate_left
  · intro w hSw
    try dsimp only at hSw
    go_simp
    try with_reducible rfl
  try simp only [Act.put, List.setIfInBounds_toArray, List.set_cons_zero, List.set_cons_succ]
  refine wpAnyH_done (by kernel_rfl) ?_ _
  go_wp2
  go_ret
  exact ⟨rfl, Below.then_ KK (sB hHeld)⟩
set_option maxRecDepth 100000 in
set_option maxHeartbeats 2000000 in
theorem yes_gt_false (m : Int) (A : Option Addr) (n c : Nat) (xs : List Int) (x most : Int) (w : World) (I : IS .i64 0 w A n c xs) (hn : n ≤ 200) (h1 : 64 < most) (hm : mayB m n = true) :
    Calls Try.prog 3 #[.agg #[.int .i64 m, .slice A n c, .bool false], .int .i64 x, .int .i64 most] w fun e w' => e = .returned (.bool true) ∧ Below w.heap.size w w' := by
  have hd : decide ((200 : Int) < (n : Int)) = false := by simp; omega
  have K := below_alloc w (.cells #[.int .i64 m, .slice A n c, .bool false] 24)
  replace I := I.below K
  have H := Q3.new w (.int .i64 m) (.slice A n c) (.bool false)
  have hg : w.heap.size < (w.alloc (.cells #[.int .i64 m, .slice A n c, .bool false] 24)).heap.size := H.lt
  have hnm : (n : Int) ≤ m := by unfold mayB at hm; simp at hm; omega
  have HM := Lib.hid hm
  clear hm
  have eb : (mayB m n != mayB m n) = false := by simp
  go_enter Try.func3, Try.ntmps3
  go_wp2_with fail
  generalize w.alloc (.cells #[.int .i64 m, .slice A n c, .bool false] 24) = w1 at H I K hg ⊢
  generalize w.heap.size = g at H hg ⊢
  have q0 := H.c0
  have q1 := H.c1
  have q2 := H.c2
  go_region_held3 (fun w' => w'.cell? ⟨g, 0, none⟩ = some (.int .i64 m) ∧ w'.cell? ⟨g, 1, none⟩ = some (.slice A n c) ∧ w'.cell? ⟨g, 2, none⟩ = some (.bool false) ∧ Below w1.heap.size w1 w') (first | exact ⟨q0, q1, q2, (Below.refl _ _).drew⟩ | exact s_step (by assumption) hg K')
    (first | (go_at_call 6; refine (awake_any _).mono ?_; rintro e w' ⟨rfl, K'⟩) | (go_at_call 7; refine (may_any _ _ _ _ _ _).mono ?_; rintro e w' ⟨rfl, K'⟩) | (go_at_call 8; refine (rmay_any _ _ _ _ _ _).mono ?_; rintro e w' ⟨rfl, K'⟩))
  rename_i hS
  have L := hS.2.2.2
  clear hS K' eb q0 q1 q2
  replace H := H.below L
  replace I := I.below L
  replace K := Below.then_ K L
  clear L hg
  go_wp2_with fail
  refine (new_no (m := most) (by omega) _).mono ?_
  rintro e w2 ⟨rfl, K'⟩
  replace H := H.below K'
  replace I := I.below K'
  replace K := Below.then_ K K'
  clear K'
  go_wp2_with fail
  refine (same_any (IS.none_ .i64 0 _) (IS.none_ .i64 0 _) (by decide)).mono ?_
  rintro e w3 ⟨rfl, K'⟩
  replace H := (H.alloc _).below K'
  replace I := (I.below (below_alloc _ _)).below K'
  have Hn := (Q3.new w2 (.int .i64 0) (.slice none 0 0) (.bool false)).below K'
  replace K := Below.then_ (Below.then_ K (below_alloc _ _)) K'
  clear K'
  clear Hn
  have H_0 := H.c0
  have H_1 := H.c1
  have H_2 := H.c2
  have H_z := H.lt
  go_wp2_with fail
  refine (rmay_is HM.out).mono ?_
  rintro e w4 ⟨rfl, K'⟩
  clear H_0 H_1 H_2 H_z
  replace H := H.below K'
  replace I := I.below K'
  replace K := Below.then_ K K'
  clear K'
  have H_0 := H.c0
  have H_1 := H.c1
  have H_2 := H.c2
  have H_z := H.lt
  go_wp2_with fail
  refine (put_any (m := m) (x := x) (cl := false) I (by omega)).mono ?_
  rintro e w5 ⟨A1, c1, rfl, I1, K'⟩
  clear H_0 H_1 H_2 H_z
  replace H := H.below K'
  replace I := I.below K'
  replace K := Below.then_ K K'
  clear K'
  have H_0 := H.c0
  have H_1 := H.c1
  have H_2 := H.c2
  have H_z := H.lt
  go_wp2_with fail
  refine (rput_any (m := m) (x := x) (cl := false) (I.below (below_alloc _ _)) hnm (by omega)).mono ?_
  rintro e w6 ⟨A2, c2, rfl, I2, K'⟩
  clear H_0 H_1 H_2 H_z
  replace H := (H.alloc _).below K'
  replace I := (I.below (below_alloc _ _)).below K'
  replace I1 := (I1.below (below_alloc _ _)).below K'
  have H1 := (Q3.new w5 (.int .i64 m) (.slice A1 (putN m n false) c1) (.bool false)).below K'
  replace K := Below.then_ (Below.then_ K (below_alloc _ _)) K'
  clear K'
  have H_0 := H.c0
  have H_1 := H.c1
  have H_2 := H.c2
  have H_z := H.lt
  go_wp2_with fail
  refine (take_any (I.below (below_alloc _ _)) (by omega)).mono ?_
  rintro e w7 ⟨A3, c3, rfl, I3, K'⟩
  clear H_0 H_1 H_2 H_z
  replace H := (H.alloc _).below K'
  replace H1 := (H1.alloc _).below K'
  replace I := (I.below (below_alloc _ _)).below K'
  replace I1 := (I1.below (below_alloc _ _)).below K'
  replace I2 := (I2.below (below_alloc _ _)).below K'
  have H2 := (Q3.new w6 (.int .i64 m) (.slice A2 (putN m n false) c2) (.bool false)).below K'
  replace K := Below.then_ (Below.then_ K (below_alloc _ _)) K'
  clear K'
  have H_0 := H.c0
  have H_1 := H.c1
  have H_2 := H.c2
  have H_z := H.lt
  go_wp2_with fail
  refine (rtake_any (I.below (below_alloc _ _)) (by omega)).mono ?_
  rintro e w8 ⟨A4, c4, rfl, I4, K'⟩
  clear H_0 H_1 H_2 H_z
  replace H := (H.alloc _).below K'
  replace H1 := (H1.alloc _).below K'
  replace H2 := (H2.alloc _).below K'
  replace I := (I.below (below_alloc _ _)).below K'
  replace I1 := (I1.below (below_alloc _ _)).below K'
  replace I2 := (I2.below (below_alloc _ _)).below K'
  replace I3 := (I3.below (below_alloc _ _)).below K'
  have H3 := (Q3.new w7 (.int .i64 m) (.slice A3 (n - 1) c3) (.bool false)).below K'
  replace K := Below.then_ (Below.then_ K (below_alloc _ _)) K'
  clear K'
  have H_0 := H.c0
  have H_1 := H.c1
  have H_2 := H.c2
  have H_z := H.lt
  go_wp2_with fail
  clear H_0 H_1 H_2 H_z
  replace H := (H.alloc (.cells #[.int .i64 m, .slice A4 (n - 1) c4, .bool false] 24)).alloc (.cells #[.int .i64 m, .slice A n c, .bool true] 24)
  replace H1 := (H1.alloc (.cells #[.int .i64 m, .slice A4 (n - 1) c4, .bool false] 24)).alloc (.cells #[.int .i64 m, .slice A n c, .bool true] 24)
  replace H2 := (H2.alloc (.cells #[.int .i64 m, .slice A4 (n - 1) c4, .bool false] 24)).alloc (.cells #[.int .i64 m, .slice A n c, .bool true] 24)
  replace H3 := (H3.alloc (.cells #[.int .i64 m, .slice A4 (n - 1) c4, .bool false] 24)).alloc (.cells #[.int .i64 m, .slice A n c, .bool true] 24)
  have H4 := (Q3.new w8 (.int .i64 m) (.slice A4 (n - 1) c4) (.bool false)).alloc (.cells #[.int .i64 m, .slice A n c, .bool true] 24)
  have H5 := Q3.new (w8.alloc (.cells #[.int .i64 m, .slice A4 (n - 1) c4, .bool false] 24)) (.int .i64 m) (.slice A n c) (.bool true)
  simp only [World.size_alloc] at H5
  have L := Below.then_ (below_alloc w8 (.cells #[.int .i64 m, .slice A4 (n - 1) c4, .bool false] 24)) (below_alloc _ (.cells #[.int .i64 m, .slice A n c, .bool true] 24))
  replace I := I.below L
  replace I1 := I1.below L
  replace I2 := I2.below L
  replace I3 := I3.below L
  replace I4 := I4.below L
  replace K := Below.then_ K L
  clear L
  generalize (w8.alloc (.cells #[.int .i64 m, .slice A4 (n - 1) c4, .bool false] 24)).alloc (.cells #[.int .i64 m, .slice A n c, .bool true] 24) = w9 at H H1 H2 H3 H4 H5 I I1 I2 I3 I4 K ⊢
  generalize w5.heap.size = g1 at H1 ⊢
  generalize w6.heap.size = g2 at H2 ⊢
  generalize w7.heap.size = g3 at H3 ⊢
  generalize w8.heap.size + 1 = g5 at H5 ⊢
  generalize w8.heap.size = g4 at H4 ⊢
  have KK := K
  clear K
  have e1 : (putE m n false == putE m n false) = true := by simp
  have e2 : (gi xs 0 == gi xs 0) = true := by simp
  have e3 : (tkB n == tkB n) = true := by simp
  refine wp_region_held_drew (S := (fun w' => Below w9.heap.size w9 w' ∧ w'.cell? ⟨g, 0, none⟩ = some (.int .i64 m) ∧ w'.cell? ⟨g, 1, none⟩ = some (.slice A n c) ∧ w'.cell? ⟨g, 2, none⟩ = some (.bool false) ∧ w'.cell? ⟨g1, 0, none⟩ = some (.int .i64 m) ∧ w'.cell? ⟨g1, 1, none⟩ = some (.slice A1 (putN m n false) c1) ∧ w'.cell? ⟨g1, 2, none⟩ = some (.bool false) ∧ w'.cell? ⟨g2, 0, none⟩ = some (.int .i64 m) ∧ w'.cell? ⟨g2, 1, none⟩ = some (.slice A2 (putN m n false) c2) ∧ w'.cell? ⟨g2, 2, none⟩ = some (.bool false) ∧ w'.cell? ⟨g3, 0, none⟩ = some (.int .i64 m) ∧ w'.cell? ⟨g3, 1, none⟩ = some (.slice A3 (n - 1) c3) ∧ w'.cell? ⟨g3, 2, none⟩ = some (.bool false) ∧ w'.cell? ⟨g4, 0, none⟩ = some (.int .i64 m) ∧ w'.cell? ⟨g4, 1, none⟩ = some (.slice A4 (n - 1) c4) ∧ w'.cell? ⟨g4, 2, none⟩ = some (.bool false) ∧ w'.cell? ⟨g5, 0, none⟩ = some (.int .i64 m) ∧ w'.cell? ⟨g5, 1, none⟩ = some (.slice A n c) ∧ w'.cell? ⟨g5, 2, none⟩ = some (.bool true))) (by kernel_rfl) (s6 H H1 H2 H3 H4 H5 (Below.refl _ _).drew) (fun hHeld => ?_)
  refine wpAnyH_take (i := 0) (oi := ⟨some 111, _, _, _, _, _⟩) (v := ?_) rfl (by kernel_rfl) (by kernel_rfl) (by kernel_rfl) (fun _ _ _ h => h) (Or.inl ⟨by rfl, ?_⟩) hHeld ?_
  rotate_left
  · intro w hSw
    try dsimp only at hSw
    go_simp
    try with_reducible rfl
  try simp only [Act.put, List.setIfInBounds_toArray, List.set_cons_zero, List.set_cons_succ]
  refine wpAnyH_take (i := 1) (oi := ⟨some 112, _, _, _, _, _⟩) (v := ?_) rfl (by kernel_rfl) (by kernel_rfl) (by kernel_rfl) (fun _ _ _ h => h) (Or.inl ⟨by rfl, ?_⟩) hHeld ?_
  rotate_left
  · intro w hSw
    try dsimp only at hSw
    go_simp
    try with_reducible rfl
  try simp only [Act.put, List.setIfInBounds_toArray, List.set_cons_zero, List.set_cons_succ]
  refine wpAnyH_ready (rs := [2]) (by kernel_rfl) (by simp) ?_
  refine AllReadyH.cons (o := ⟨some 113, _, _, _, _, _⟩) rfl (fun K hK => ?_) AllReadyH.nil
  go_simp
  refine (same_any (I1.below (sB hHeld)) (I2.below (sB hHeld)) (putN_le false hn)).mono ?_
  rintro e w' ⟨rfl, K'⟩
  refine hK.out _ _ (s6 H H1 H2 H3 H4 H5 (Below.then_ (sB hHeld) K')) (fun hHeld' => ?_)
  clear hHeld K' hK
  clear K
  have hHeld := hHeld'
  clear hHeld'
  try simp only [Act.put, List.setIfInBounds_toArray, List.set_cons_zero, List.set_cons_succ]
  refine wpAnyH_take (i := 3) (oi := ⟨some 114, _, _, _, _, _⟩) (v := ?_) rfl (by kernel_rfl) (by kernel_rfl) (by kernel_rfl) (fun _ _ _ h => h) (Or.inl ⟨by rfl, ?_⟩) hHeld ?_
  rotate_left
  · intro w hSw
    try dsimp only at hSw
    go_simp
    try with_reducible rfl
  try simp only [Act.put, List.setIfInBounds_toArray, List.set_cons_zero, List.set_cons_succ]
  refine wpAnyH_take (i := 4) (oi := ⟨some 115, _, _, _, _, _⟩) (v := ?_) rfl (by kernel_rfl) (by kernel_rfl) (by kernel_rfl) (fun _ _ _ h => h) (Or.inl ⟨by rfl, ?_⟩) hHeld ?_
  rotate_left
  · intro w hSw
    try dsimp only at hSw
    go_simp
    try with_reducible rfl
  try simp only [Act.put, List.setIfInBounds_toArray, List.set_cons_zero, List.set_cons_succ]
  refine wpAnyH_take (i := 5) (oi := ⟨some 116, _, _, _, _, _⟩) (v := ?_) rfl (by kernel_rfl) (by kernel_rfl) (by kernel_rfl) (fun _ _ _ h => h) (Or.inl ⟨by rfl, ?_⟩) hHeld ?_
  rotate_left
  · intro w hSw
    try dsimp only at hSw
    go_simp
    try with_reducible rfl
  try simp only [Act.put, List.setIfInBounds_toArray, List.set_cons_zero, List.set_cons_succ]
  refine wpAnyH_take (i := 6) (oi := ⟨some 117, _, _, _, _, _⟩) (v := ?_) rfl (by kernel_rfl) (by kernel_rfl) (by kernel_rfl) (fun _ _ _ h => h) (Or.inl ⟨by rfl, ?_⟩) hHeld ?_
  rotate_left
  · intro w hSw
    try dsimp only at hSw
    go_simp
    try with_reducible rfl
  try simp only [Act.put, List.setIfInBounds_toArray, List.set_cons_zero, List.set_cons_succ]
  refine wpAnyH_take (i := 7) (oi := ⟨some 118, _, _, _, _, _⟩) (v := ?_) rfl (by kernel_rfl) (by kernel_rfl) (by kernel_rfl) (fun _ _ _ h => h) (Or.inl ⟨by rfl, ?_⟩) hHeld ?_
  rotate_left
  · intro w hSw
    try dsimp only at hSw
    go_simp
    try with_reducible rfl
  try simp only [Act.put, List.setIfInBounds_toArray, List.set_cons_zero, List.set_cons_succ]
  refine wpAnyH_take (i := 8) (oi := ⟨some 119, _, _, _, _, _⟩) (v := ?_) rfl (by kernel_rfl) (by kernel_rfl) (by kernel_rfl) (fun _ _ _ h => h) (Or.inl ⟨by rfl, ?_⟩) hHeld ?_
  rotate_left
  · intro w hSw
    try dsimp only at hSw
    go_simp
    try with_reducible rfl
  try simp only [Act.put, List.setIfInBounds_toArray, List.set_cons_zero, List.set_cons_succ]
  refine wpAnyH_take (i := 9) (oi := ⟨some 120, _, _, _, _, _⟩) (v := ?_) rfl (by kernel_rfl) (by kernel_rfl) (by kernel_rfl) (fun _ _ _ h => h) (Or.inl ⟨by rfl, ?_⟩) hHeld ?_
  rotate_left
  · intro w hSw
    try dsimp only at hSw
    go_simp
    try with_reducible rfl
  try simp only [Act.put, List.setIfInBounds_toArray, List.set_cons_zero, List.set_cons_succ]
  refine wpAnyH_take (i := 10) (oi := ⟨some 121, _, _, _, _, _⟩) (v := ?_) rfl (by kernel_rfl) (by kernel_rfl) (by kernel_rfl) (fun _ _ _ h => h) (Or.inl ⟨by rfl, ?_⟩) hHeld ?_
  rotate_left
  · intro w hSw
    try dsimp only at hSw
    go_simp
    try with_reducible rfl
  try simp only [Act.put, List.setIfInBounds_toArray, List.set_cons_zero, List.set_cons_succ]
  refine wpAnyH_ready (rs := [11]) (by kernel_rfl) (by simp) ?_
  refine AllReadyH.cons (o := ⟨some 122, _, _, _, _, _⟩) rfl (fun K hK => ?_) AllReadyH.nil
  go_simp
  refine (same_any (I3.below (sB hHeld)) (I4.below (sB hHeld)) (by omega)).mono ?_
  rintro e w' ⟨rfl, K'⟩
  refine hK.out _ _ (s6 H H1 H2 H3 H4 H5 (Below.then_ (sB hHeld) K')) (fun hHeld' => ?_)
  clear hHeld K' hK
  clear K
  have hHeld := hHeld'
  clear hHeld'
  try simp only [Act.put, List.setIfInBounds_toArray, List.set_cons_zero, List.set_cons_succ]
  refine wpAnyH_take (i := 12) (oi := ⟨some 123, _, _, _, _, _⟩) (v := ?_) rfl (by kernel_rfl) (by kernel_rfl) (by kernel_rfl) (fun _ _ _ h => h) (Or.inl ⟨by rfl, ?_⟩) hHeld ?_
  rotate_left
  · intro w hSw
    try dsimp only at hSw
    go_simp
    try with_reducible rfl
  try simp only [Act.put, List.setIfInBounds_toArray, List.set_cons_zero, List.set_cons_succ]
  refine wpAnyH_take (i := 13) (oi := ⟨some 124, _, _, _, _, _⟩) (v := ?_) rfl (by kernel_rfl) (by kernel_rfl) (by kernel_rfl) (fun _ _ _ h => h) (Or.inl ⟨by rfl, ?_⟩) hHeld ?_
  rotate_left
  · intro w hSw
    try dsimp only at hSw
    go_simp
    try with_reducible rfl
  try simp only [Act.put, List.setIfInBounds_toArray, List.set_cons_zero, List.set_cons_succ]
  refine wpAnyH_take (i := 14) (oi := ⟨some 125, _, _, _, _, _⟩) (v := ?_) rfl (by kernel_rfl) (by kernel_rfl) (by kernel_rfl) (fun _ _ _ h => h) (Or.inl ⟨by rfl, ?_⟩) hHeld ?_
  rotate_left
  · intro w hSw
    try dsimp only at hSw
    go_simp
    try with_reducible rfl
  try simp only [Act.put, List.setIfInBounds_toArray, List.set_cons_zero, List.set_cons_succ]
  refine wpAnyH_take (i := 15) (oi := ⟨some 126, _, _, _, _, _⟩) (v := ?_) rfl (by kernel_rfl) (by kernel_rfl) (by kernel_rfl) (fun _ _ _ h => h) (Or.inl ⟨by rfl, ?_⟩) hHeld ?_
  rotate_left
  · intro w hSw
    try dsimp only at hSw
    go_simp
    try with_reducible rfl
  try simp only [Act.put, List.setIfInBounds_toArray, List.set_cons_zero, List.set_cons_succ]
  refine wpAnyH_take (i := 16) (oi := ⟨some 127, _, _, _, _, _⟩) (v := ?_) rfl (by kernel_rfl) (by kernel_rfl) (by kernel_rfl) (fun _ _ _ h => h) (Or.inl ⟨by rfl, ?_⟩) hHeld ?_
  rotate_left
  · intro w hSw
    try dsimp only at hSw
    go_simp
    try with_reducible rfl
  try simp only [Act.put, List.setIfInBounds_toArray, List.set_cons_zero, List.set_cons_succ]
  refine wpAnyH_take (i := 17) (oi := ⟨some 128, _, _, _, _, _⟩) (v := ?_) rfl (by kernel_rfl) (by kernel_rfl) (by kernel_rfl) (fun _ _ _ h => h) (Or.inl ⟨by rfl, ?_⟩) hHeld ?_
  rotate_left
  · intro w hSw
    try dsimp only at hSw
    go_simp
    try with_reducible rfl
  try simp only [Act.put, List.setIfInBounds_toArray, List.set_cons_zero, List.set_cons_succ]
  refine wpAnyH_take (i := 18) (oi := ⟨some 129, _, _, _, _, _⟩) (v := ?_) rfl (by kernel_rfl) (by kernel_rfl) (by kernel_rfl) (fun _ _ _ h => h) (Or.inl ⟨by rfl, ?_⟩) hHeld ?_
  rotate_left
  · intro w hSw
    try dsimp only at hSw
    go_simp
    try with_reducible rfl
  try simp only [Act.put, List.setIfInBounds_toArray, List.set_cons_zero, List.set_cons_succ]
  refine wpAnyH_take (i := 19) (oi := ⟨some 130, _, _, _, _, _⟩) (v := ?_) rfl (by kernel_rfl) (by kernel_rfl) (by kernel_rfl) (fun _ _ _ h => h) (Or.inl ⟨by rfl, ?_⟩) hHeld ?_
  rotate_left
  · intro w hSw
    try dsimp only at hSw
    go_simp
    try with_reducible rfl
  try simp only [Act.put, List.setIfInBounds_toArray, List.set_cons_zero, List.set_cons_succ]
  refine wpAnyH_take (i := 20) (oi := ⟨some 131, _, _, _, _, _⟩) (v := ?_) rfl (by kernel_rfl) (by kernel_rfl) (by kernel_rfl) (fun _ _ _ h => h) (Or.inl ⟨by rfl, ?_⟩) hHeld ?_
  rotate_left
  · intro w hSw
    try dsimp only at hSw
    go_simp
    try with_reducible rfl
  try simp only [Act.put, List.setIfInBounds_toArray, List.set_cons_zero, List.set_cons_succ]
  refine wpAnyH_take (i := 21) (oi := ⟨some 132, _, _, _, _, _⟩) (v := ?_) rfl (by kernel_rfl) (by kernel_rfl) (by kernel_rfl) (fun _ _ _ h => h) (Or.inl ⟨by rfl, ?_⟩) hHeld ?_
  rotate_left
  · intro w hSw
    try dsimp only at hSw
    go_simp
    try with_reducible rfl
  try simp only [Act.put, List.setIfInBounds_toArray, List.set_cons_zero, List.set_cons_succ]
  refine wpAnyH_take (i := 22) (oi := ⟨some 133, _, _, _, _, _⟩) (v := ?_) rfl (by kernel_rfl) (by kernel_rfl) (by kernel_rfl) (fun _ _ _ h => h) (Or.inl ⟨by rfl, ?_⟩) hHeld ?_
  rotate_left
  · intro w hSw
    try dsimp only at hSw
    go_simp
    try with_reducible rfl
  try simp only [Act.put, List.setIfInBounds_toArray, List.set_cons_zero, List.set_cons_succ]
  refine wpAnyH_take (i := 23) (oi := ⟨some 134, _, _, _, _, _⟩) (v := ?_) rfl (by kernel_rfl) (by kernel_rfl) (by kernel_rfl) (fun _ _ _ h => h) (Or.inl ⟨by rfl, ?_⟩) hHeld ?_
  rotate_left
  · intro w hSw
    try dsimp only at hSw
    go_simp
    try with_reducible rfl
  try simp only [Act.put, List.setIfInBounds_toArray, List.set_cons_zero, List.set_cons_succ]
  refine wpAnyH_take (i := 24) (oi := ⟨some 135, _, _, _, _, _⟩) (v := ?_) rfl (by kernel_rfl) (by kernel_rfl) (by kernel_rfl) (fun _ _ _ h => h) (Or.inl ⟨by rfl, ?_⟩) hHeld ?_
  rotate_left
  · intro w hSw
    try dsimp only at hSw
    go_simp
    try with_reducible rfl
  try simp only [Act.put, List.setIfInBounds_toArray, List.set_cons_zero, List.set_cons_succ]
  refine wpAnyH_take (i := 26) (oi := ⟨some 137, _, _, _, _, _⟩) (v := ?_) rfl (by kernel_rfl) (by kernel_rfl) (by kernel_rfl) (fun _ _ _ h => h) (Or.inl ⟨by rfl, ?_⟩) hHeld ?_
  rotate_left
  · intro w hSw
    try dsimp only at hSw
    go_simp
    try with_reducible rfl
  try simp only [Act.put, List.setIfInBounds_toArray, List.set_cons_zero, List.set_cons_succ]
  refine wpAnyH_ready (rs := [25]) (by kernel_rfl) (by simp) ?_
  refine AllReadyH.cons (o := ⟨some 136, _, _, _, _, _⟩) rfl (fun K hK => ?_) AllReadyH.nil
  go_simp
  refine (close_any (I.below (sB hHeld)) (by omega)).mono ?_
  rintro e w' ⟨A6, c6, rfl, I6, K'⟩
  refine hK.out _ _ (s6 H H1 H2 H3 H4 H5 (Below.then_ (sB hHeld) K')) (fun hHeld' => ?_)
  clear hHeld K' hK
  clear K
  have hHeld := hHeld'
  clear hHeld'
  try simp only [Act.put, List.setIfInBounds_toArray, List.set_cons_zero, List.set_cons_succ]
  refine wpAnyH_ready (rs := [27]) (by kernel_rfl) (by simp) ?_
  refine AllReadyH.cons (o := ⟨some 138, _, _, _, _, _⟩) rfl (fun K hK => ?_) AllReadyH.nil
  go_simp
  refine (same_any I6 (I.below (sB hHeld)) (by omega)).mono ?_
  rintro e w' ⟨rfl, K'⟩
  refine hK.out _ _ (s6 H H1 H2 H3 H4 H5 (Below.then_ (sB hHeld) K')) (fun hHeld' => ?_)
  clear hHeld K' hK
  clear K
  have hHeld := hHeld'
  clear hHeld'
  try simp only [Act.put, List.setIfInBounds_toArray, List.set_cons_zero, List.set_cons_succ]
  refine wpAnyH_take (i := 28) (oi := ⟨some 139, _, _, _, _, _⟩) (v := ?_) rfl (by kernel_rfl) (by kernel_rfl) (by kernel_rfl) (fun _ _ _ h => h) (Or.inl ⟨by rfl, ?_⟩) hHeld ?_
  rotate_left
  · intro w hSw
    try dsimp only at hSw
    go_simp
    try with_reducible rfl
  try simp only [Act.put, List.setIfInBounds_toArray, List.set_cons_zero, List.set_cons_succ]
  refine wpAnyH_take (i := 29) (oi := ⟨some 140, _, _, _, _, _⟩) (v := ?_) rfl (by kernel_rfl) (by kernel_rfl) (by kernel_rfl) (fun _ _ _ h => h) (Or.inl ⟨by rfl, ?_⟩) hHeld ?_
  rotate_left
  · intro w hSw
    try dsimp only at hSw
    go_simp
    try with_reducible rfl
  try simp only [Act.put, List.setIfInBounds_toArray, List.set_cons_zero, List.set_cons_succ]
  refine wpAnyH_take (i := 30) (oi := ⟨some 141, _, _, _, _, _⟩) (v := ?_) rfl (by kernel_rfl) (by kernel_rfl) (by kernel_rfl) (fun _ _ _ h => h) (Or.inl ⟨by rfl, ?_⟩) hHeld ?_
  rotate_left
  · intro w hSw
    try dsimp only at hSw
    go_simp
    try with_reducible rfl
  try simp only [Act.put, List.setIfInBounds_toArray, List.set_cons_zero, List.set_cons_succ]
  refine wpAnyH_take (i := 32) (oi := ⟨some 143, _, _, _, _, _⟩) (v := ?_) rfl (by kernel_rfl) (by kernel_rfl) (by kernel_rfl) (fun _ _ _ h => h) (Or.inl ⟨by rfl, ?_⟩) hHeld ?_
  rotate_left
  · intro w hSw
    try dsimp only at hSw
    go_simp
    try with_reducible rfl
  try simp only [Act.put, List.setIfInBounds_toArray, List.set_cons_zero, List.set_cons_succ]
  refine wpAnyH_take (i := 33) (oi := ⟨some 144, _, _, _, _, _⟩) (v := ?_) rfl (by kernel_rfl) (by kernel_rfl) (by kernel_rfl) (fun _ _ _ h => h) (Or.inl ⟨by rfl, ?_⟩) hHeld ?_
  rotate_left
  · intro w hSw
    try dsimp only at hSw
    go_simp
    try with_reducible rfl
  try simp only [Act.put, List.setIfInBounds_toArray, List.set_cons_zero, List.set_cons_succ]
  refine wpAnyH_ready (rs := [31]) (by kernel_rfl) (by simp) ?_
  refine AllReadyH.cons (o := ⟨some 142, _, _, _, _, _⟩) rfl (fun K hK => ?_) AllReadyH.nil
  go_simp
  refine (ends_open).mono ?_
  rintro e w' ⟨rfl, K'⟩
  refine hK.out _ _ (s6 H H1 H2 H3 H4 H5 (Below.then_ (sB hHeld) K')) (fun hHeld' => ?_)
  clear hHeld K' hK
  clear K
  have hHeld := hHeld'
  clear hHeld'
  try simp only [Act.put, List.setIfInBounds_toArray, List.set_cons_zero, List.set_cons_succ]
  refine wpAnyH_take (i := 34) (oi := ⟨some 145, _, _, _, _, _⟩) (v := ?_) rfl (by kernel_rfl) (by kernel_rfl) (by kernel_rfl) (fun _ _ _ h => h) (Or.inl ⟨by rfl, ?_⟩) hHeld ?_
  rotate_left
  · intro w hSw
    try dsimp only at hSw
    go_simp
    try with_reducible rfl
  try simp only [Act.put, List.setIfInBounds_toArray, List.set_cons_zero, List.set_cons_succ]
  refine wpAnyH_take (i := 35) (oi := ⟨some 146, _, _, _, _, _⟩) (v := undef) rfl (by kernel_rfl) (by kernel_rfl) (by kernel_rfl) (fun _ _ _ h => h) (Or.inr ⟨by rfl, rfl⟩) hHeld ?_
  try simp only [Act.put, List.setIfInBounds_toArray, List.set_cons_zero, List.set_cons_succ]
  refine wpAnyH_take (i := 36) (oi := ⟨some 147, _, _, _, _, _⟩) (v := undef) rfl (by kernel_rfl) (by kernel_rfl) (by kernel_rfl) (fun _ _ _ h => h) (Or.inr ⟨by rfl, rfl⟩) hHeld ?_
  try simp only [Act.put, List.setIfInBounds_toArray, List.set_cons_zero, List.set_cons_succ]
  refine wpAnyH_take (i := 37) (oi := ⟨some 148, _, _, _, _, _⟩) (v := undef) rfl (by kernel_rfl) (by kernel_rfl) (by kernel_rfl) (fun _ _ _ h => h) (Or.inr ⟨by rfl, rfl⟩) hHeld ?_
  try simp only [Act.put, List.setIfInBounds_toArray, List.set_cons_zero, List.set_cons_succ]
  refine wpAnyH_take (i := 38) (oi := ⟨some 149, _, _, _, _, _⟩) (v := undef) rfl (by kernel_rfl) (by kernel_rfl) (by kernel_rfl) (fun _ _ _ h => h) (Or.inr ⟨by rfl, rfl⟩) hHeld ?_
  try simp only [Act.put, List.setIfInBounds_toArray, List.set_cons_zero, List.set_cons_succ]
  refine wpAnyH_take (i := 39) (oi := ⟨some 150, _, _, _, _, _⟩) (v := ?_) rfl (by kernel_rfl) (by kernel_rfl) (by kernel_rfl) (fun _ _ _ h => h) (Or.inl ⟨by rfl, ?_⟩) hHeld ?_
  rotate_left
  · intro w hSw
    try dsimp only at hSw
    go_simp
    try with_reducible rfl
  try simp only [Act.put, List.setIfInBounds_toArray, List.set_cons_zero, List.set_cons_succ]
  refine wpAnyH_take (i := 40) (oi := ⟨some 151, _, _, _, _, _⟩) (v := ?_) rfl (by kernel_rfl) (by kernel_rfl) (by kernel_rfl) (fun _ _ _ h => h) (Or.inl ⟨by rfl, ?_⟩) hHeld ?_
  rotate_left
  · intro w hSw
    try dsimp only at hSw
    go_simp
    try with_reducible rfl
  try simp only [Act.put, List.setIfInBounds_toArray, List.set_cons_zero, List.set_cons_succ]
  refine wpAnyH_take (i := 41) (oi := ⟨some 152, _, _, _, _, _⟩) (v := ?_) rfl (by kernel_rfl) (by kernel_rfl) (by kernel_rfl) (fun _ _ _ h => h) (Or.inl ⟨by rfl, ?_⟩) hHeld ?_
  rotate_left
  · intro w hSw
    try dsimp only at hSw
    go_simp
    try with_reducible rfl
  try simp only [Act.put, List.setIfInBounds_toArray, List.set_cons_zero, List.set_cons_succ]
  refine wpAnyH_take (i := 42) (oi := ⟨some 6, _, _, _, _, _⟩) (v := ?_) rfl (by kernel_rfl) (by kernel_rfl) (by kernel_rfl) (fun _ _ _ h => h) (Or.inl ⟨by rfl, ?_⟩) hHeld ?_
  rotate_left
  · intro w hSw
    try dsimp only at hSw
    go_simp
    try with_reducible rfl
  try simp only [Act.put, List.setIfInBounds_toArray, List.set_cons_zero, List.set_cons_succ]
  refine wpAnyH_done (by kernel_rfl) ?_ _
  go_wp2
  go_ret
  exact ⟨rfl, Below.then_ KK (sB hHeld)⟩
end Go.Proofs.Ytlaihgcpaiocpaa.queueDoes
