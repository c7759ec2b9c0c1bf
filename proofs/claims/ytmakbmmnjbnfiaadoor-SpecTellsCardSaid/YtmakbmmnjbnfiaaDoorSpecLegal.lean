/-
  What Legal answers: the set then, and whether the request is answered rightly at once. Conditions: a configuration and a set that may be; at most 60000 addresses in the request, and in the answer's lists.
-/
import Derived.Test.YtmakbmmnjbnfiaaDoorSpecSome
namespace Go.Proofs.YtmakbmmnjbnfiaaDoor
open Go.RowKit
set_option linter.unusedVariables false
section
variable {w : World} {lo lo2 lo3 a M m d q f X : Nat} {p sh wo qu tr k : Int} {A B C : Option Addr} {n c : Nat} {zs xs ys : List Int} {lo4 lo5 p1 p2 q1 q2 : Nat} {P Q : Option Addr} {x : An}
theorem doS_len (k : Int) (X : Nat) (ys : List Int) : (doS a M zs xs k X ys).2.2.2.2.1.length ≤ xs.length ∧ (doS a M zs xs k X ys).2.2.2.2.2.length ≤ ys.length := by
  unfold doS
  split
  · cases lea zs xs M <;> simp [okA, an0]
  · split
    · split <;> simp [okA, an0]
    · split
      · simp [an0]
      · split
        · simp [batE_len]
        · split
          · simp
          · split
            · simp [ads_len]
            · simp [an0]
theorem someS_len (k : Int) (X : Nat) (ys : List Int) : (someS a M zs xs k X ys).2.2.2.2.1.length ≤ xs.length ∧ (someS a M zs xs k X ys).2.2.2.2.2.length ≤ ys.length := by
  unfold someS
  split
  · exact doS_len k X ys
  · simp [an0]
theorem stS_len (k : Int) (X : Nat) (ys : List Int) (x : An) : (stS a M zs xs k X ys x).2.2.2.2.1.length ≤ xs.length ∧ (stS a M zs xs k X ys x).2.2.2.2.2.length ≤ ys.length := by
  unfold stS
  split
  · have := someS_len (a := a) (M := M) (zs := zs) (xs := xs) 2 x.2.1.toNat []
    exact ⟨this.1, Nat.le_trans this.2 (Nat.zero_le _)⟩
  · exact someS_len k X ys
theorem putO_at {E : Int} {D : Int} {U : Bool} {gs es : List Int} : putO k (E, D, U, gs, es) = (decide (E = 10 ∨ E = 12 ∨ (E = 11 ∧ k = 6)) && decide ((E, D, U, gs, es) = an0 E)) := by
  unfold putO; rw [Bool.decide_and]
set_option maxRecDepth 100000 in
set_option maxHeartbeats 4000000 in
theorem put_busy1 (hA0 : IS .u32 lo4 w P p1 p2 x.2.2.2.1) (hE0 : IS .i64 lo5 w Q q1 q2 x.2.2.2.2) (b1 : p1 ≤ 60000) (b2 : q1 ≤ 60000) (he : x.1 = 10) :
    Calls Tryd.prog 31 #[.agg #[.int .i64 k, .int .u32 (X : Int), .slice C q f], .agg #[.int .i64 x.1, .int .u32 x.2.1, .bool x.2.2.1, .slice P p1 p2, .slice Q q1 q2]] w (RetBo (decide (x = an0 x.1)) w) := by
  have g1 : (x.1 == 10) = true := by simp [he]
  replace he := Lib.hid he
  have hA := hA0
  have hE := hE0
  have K := Below.refl w.heap.size w
  go_enter Tryd.func31, Tryd.ntmps31
  go_upto_region 1 with (fail)
  have KS := K.size
  replace hA := hA.below (below_alloc _ (.cells #[.int .i64 k, .int .u32 (X : Int), .slice C q f] 30))
  replace hE := hE.below (below_alloc _ (.cells #[.int .i64 k, .int .u32 (X : Int), .slice C q f] 30))
  replace K := Below.then_ K (below_alloc _ (.cells #[.int .i64 k, .int .u32 (X : Int), .slice C q f] 30))
  have G := Bk.new (w) #[.int .i64 k, .int .u32 (X : Int), .slice C q f] 30
  replace G := G.alloc (.cells #[.int .i64 x.1, .int .u32 x.2.1, .bool x.2.2.1, .slice P p1 p2, .slice Q q1 q2] 34)
  replace hA := hA.below (below_alloc _ (.cells #[.int .i64 x.1, .int .u32 x.2.1, .bool x.2.2.1, .slice P p1 p2, .slice Q q1 q2] 34))
  replace hE := hE.below (below_alloc _ (.cells #[.int .i64 x.1, .int .u32 x.2.1, .bool x.2.2.1, .slice P p1 p2, .slice Q q1 q2] 34))
  replace K := Below.then_ K (below_alloc _ (.cells #[.int .i64 x.1, .int .u32 x.2.1, .bool x.2.2.1, .slice P p1 p2, .slice Q q1 q2] 34))
  have J := Bk.new ((w).alloc (.cells #[.int .i64 k, .int .u32 (X : Int), .slice C q f] 30)) #[.int .i64 x.1, .int .u32 x.2.1, .bool x.2.2.1, .slice P p1 p2, .slice Q q1 q2] 34
  try simp only [World.size_alloc] at G J
  generalize ((w).alloc (.cells #[.int .i64 k, .int .u32 (X : Int), .slice C q f] 30)).alloc (.cells #[.int .i64 x.1, .int .u32 x.2.1, .bool x.2.2.1, .slice P p1 p2, .slice Q q1 q2] 34) = w1 at G J hA hE K ⊢
  generalize hgJ : w.heap.size + 1 = gJ at G J ⊢
  generalize hgG : w.heap.size = gG at G J ⊢
  have G_b : w.heap.size ≤ gG := by omega
  have J_b : w.heap.size ≤ gJ := by omega
  have ne_G_J : gG ≠ gJ := by omega
  clear KS hgG hgJ 
  have G_0 := G.at_ (v := .int .i64 k) 0 rfl
  have G_1 := G.at_ (v := .int .u32 (X : Int)) 1 rfl
  have G_2 := G.at_ (v := .slice C q f) 2 rfl
  have G_z := G.lt
  have J_0 := J.at_ (v := .int .i64 x.1) 0 rfl
  have J_1 := J.at_ (v := .int .u32 x.2.1) 1 rfl
  have J_2 := J.at_ (v := .bool x.2.2.1) 2 rfl
  have J_3 := J.at_ (v := .slice P p1 p2) 3 rfl
  have J_4 := J.at_ (v := .slice Q q1 q2) 4 rfl
  have J_z := J.lt
  go_wp2_with fail
  refine (same_any (x := x) (y := an0 x.1) hA hE (IS.none_ .u32 0 _) (IS.none_ .i64 0 _) (by omega) (by omega) (by omega) (by omega)).mono ?_
  rintro e w2 ⟨rfl, K'⟩
  clear G_0 G_1 G_2 G_z
  clear J_0 J_1 J_2 J_3 J_4 J_z
  replace G := G.below K'
  replace J := J.below K'
  replace hA := hA.below K'
  replace hE := hE.below K'
  replace K := Below.then_ K K'
  clear K'
  go_wp2
  go_ret
  exact ⟨rfl, K⟩
set_option maxRecDepth 100000 in
set_option maxHeartbeats 4000000 in
theorem put_busy2 (hA0 : IS .u32 lo4 w P p1 p2 x.2.2.2.1) (hE0 : IS .i64 lo5 w Q q1 q2 x.2.2.2.2) (b1 : p1 ≤ 60000) (b2 : q1 ≤ 60000) (he : x.1 = 12) :
    Calls Tryd.prog 31 #[.agg #[.int .i64 k, .int .u32 (X : Int), .slice C q f], .agg #[.int .i64 x.1, .int .u32 x.2.1, .bool x.2.2.1, .slice P p1 p2, .slice Q q1 q2]] w (RetBo (decide (x = an0 x.1)) w) := by
  have g1 : (x.1 == 10) = false := by simp [he]
  have g2 : (x.1 == 12) = true := by simp [he]
  replace he := Lib.hid he
  have hA := hA0
  have hE := hE0
  have K := Below.refl w.heap.size w
  go_enter Tryd.func31, Tryd.ntmps31
  go_upto_region 1 with (fail)
  have KS := K.size
  replace hA := hA.below (below_alloc _ (.cells #[.int .i64 k, .int .u32 (X : Int), .slice C q f] 30))
  replace hE := hE.below (below_alloc _ (.cells #[.int .i64 k, .int .u32 (X : Int), .slice C q f] 30))
  replace K := Below.then_ K (below_alloc _ (.cells #[.int .i64 k, .int .u32 (X : Int), .slice C q f] 30))
  have G := Bk.new (w) #[.int .i64 k, .int .u32 (X : Int), .slice C q f] 30
  replace G := G.alloc (.cells #[.int .i64 x.1, .int .u32 x.2.1, .bool x.2.2.1, .slice P p1 p2, .slice Q q1 q2] 34)
  replace hA := hA.below (below_alloc _ (.cells #[.int .i64 x.1, .int .u32 x.2.1, .bool x.2.2.1, .slice P p1 p2, .slice Q q1 q2] 34))
  replace hE := hE.below (below_alloc _ (.cells #[.int .i64 x.1, .int .u32 x.2.1, .bool x.2.2.1, .slice P p1 p2, .slice Q q1 q2] 34))
  replace K := Below.then_ K (below_alloc _ (.cells #[.int .i64 x.1, .int .u32 x.2.1, .bool x.2.2.1, .slice P p1 p2, .slice Q q1 q2] 34))
  have J := Bk.new ((w).alloc (.cells #[.int .i64 k, .int .u32 (X : Int), .slice C q f] 30)) #[.int .i64 x.1, .int .u32 x.2.1, .bool x.2.2.1, .slice P p1 p2, .slice Q q1 q2] 34
  try simp only [World.size_alloc] at G J
  generalize ((w).alloc (.cells #[.int .i64 k, .int .u32 (X : Int), .slice C q f] 30)).alloc (.cells #[.int .i64 x.1, .int .u32 x.2.1, .bool x.2.2.1, .slice P p1 p2, .slice Q q1 q2] 34) = w1 at G J hA hE K ⊢
  generalize hgJ : w.heap.size + 1 = gJ at G J ⊢
  generalize hgG : w.heap.size = gG at G J ⊢
  have G_b : w.heap.size ≤ gG := by omega
  have J_b : w.heap.size ≤ gJ := by omega
  have ne_G_J : gG ≠ gJ := by omega
  clear KS hgG hgJ 
  have G_0 := G.at_ (v := .int .i64 k) 0 rfl
  have G_1 := G.at_ (v := .int .u32 (X : Int)) 1 rfl
  have G_2 := G.at_ (v := .slice C q f) 2 rfl
  have G_z := G.lt
  have J_0 := J.at_ (v := .int .i64 x.1) 0 rfl
  have J_1 := J.at_ (v := .int .u32 x.2.1) 1 rfl
  have J_2 := J.at_ (v := .bool x.2.2.1) 2 rfl
  have J_3 := J.at_ (v := .slice P p1 p2) 3 rfl
  have J_4 := J.at_ (v := .slice Q q1 q2) 4 rfl
  have J_z := J.lt
  go_wp2_with fail
  refine (same_any (x := x) (y := an0 x.1) hA hE (IS.none_ .u32 0 _) (IS.none_ .i64 0 _) (by omega) (by omega) (by omega) (by omega)).mono ?_
  rintro e w2 ⟨rfl, K'⟩
  clear G_0 G_1 G_2 G_z
  clear J_0 J_1 J_2 J_3 J_4 J_z
  replace G := G.below K'
  replace J := J.below K'
  replace hA := hA.below K'
  replace hE := hE.below K'
  replace K := Below.then_ K K'
  clear K'
  go_wp2
  go_ret
  exact ⟨rfl, K⟩
set_option maxRecDepth 100000 in
set_option maxHeartbeats 4000000 in
theorem put_retry (hA0 : IS .u32 lo4 w P p1 p2 x.2.2.2.1) (hE0 : IS .i64 lo5 w Q q1 q2 x.2.2.2.2) (b1 : p1 ≤ 60000) (b2 : q1 ≤ 60000) (he : x.1 = 11) (hk : k = 6) :
    Calls Tryd.prog 31 #[.agg #[.int .i64 k, .int .u32 (X : Int), .slice C q f], .agg #[.int .i64 x.1, .int .u32 x.2.1, .bool x.2.2.1, .slice P p1 p2, .slice Q q1 q2]] w (RetBo (decide (x = an0 x.1)) w) := by
  have g1 : (x.1 == 10) = false := by simp [he]
  have g2 : (x.1 == 12) = false := by simp [he]
  have g3 : (x.1 == 11) = true := by simp [he]
  have g4 : (k != 6) = false := by simp [hk]
  replace he := Lib.hid he
  replace hk := Lib.hid hk
  have hA := hA0
  have hE := hE0
  have K := Below.refl w.heap.size w
  go_enter Tryd.func31, Tryd.ntmps31
  go_upto_region 1 with (fail)
  have KS := K.size
  replace hA := hA.below (below_alloc _ (.cells #[.int .i64 k, .int .u32 (X : Int), .slice C q f] 30))
  replace hE := hE.below (below_alloc _ (.cells #[.int .i64 k, .int .u32 (X : Int), .slice C q f] 30))
  replace K := Below.then_ K (below_alloc _ (.cells #[.int .i64 k, .int .u32 (X : Int), .slice C q f] 30))
  have G := Bk.new (w) #[.int .i64 k, .int .u32 (X : Int), .slice C q f] 30
  replace G := G.alloc (.cells #[.int .i64 x.1, .int .u32 x.2.1, .bool x.2.2.1, .slice P p1 p2, .slice Q q1 q2] 34)
  replace hA := hA.below (below_alloc _ (.cells #[.int .i64 x.1, .int .u32 x.2.1, .bool x.2.2.1, .slice P p1 p2, .slice Q q1 q2] 34))
  replace hE := hE.below (below_alloc _ (.cells #[.int .i64 x.1, .int .u32 x.2.1, .bool x.2.2.1, .slice P p1 p2, .slice Q q1 q2] 34))
  replace K := Below.then_ K (below_alloc _ (.cells #[.int .i64 x.1, .int .u32 x.2.1, .bool x.2.2.1, .slice P p1 p2, .slice Q q1 q2] 34))
  have J := Bk.new ((w).alloc (.cells #[.int .i64 k, .int .u32 (X : Int), .slice C q f] 30)) #[.int .i64 x.1, .int .u32 x.2.1, .bool x.2.2.1, .slice P p1 p2, .slice Q q1 q2] 34
  try simp only [World.size_alloc] at G J
  generalize ((w).alloc (.cells #[.int .i64 k, .int .u32 (X : Int), .slice C q f] 30)).alloc (.cells #[.int .i64 x.1, .int .u32 x.2.1, .bool x.2.2.1, .slice P p1 p2, .slice Q q1 q2] 34) = w1 at G J hA hE K ⊢
  generalize hgJ : w.heap.size + 1 = gJ at G J ⊢
  generalize hgG : w.heap.size = gG at G J ⊢
  have G_b : w.heap.size ≤ gG := by omega
  have J_b : w.heap.size ≤ gJ := by omega
  have ne_G_J : gG ≠ gJ := by omega
  clear KS hgG hgJ 
  have G_0 := G.at_ (v := .int .i64 k) 0 rfl
  have G_1 := G.at_ (v := .int .u32 (X : Int)) 1 rfl
  have G_2 := G.at_ (v := .slice C q f) 2 rfl
  have G_z := G.lt
  have J_0 := J.at_ (v := .int .i64 x.1) 0 rfl
  have J_1 := J.at_ (v := .int .u32 x.2.1) 1 rfl
  have J_2 := J.at_ (v := .bool x.2.2.1) 2 rfl
  have J_3 := J.at_ (v := .slice P p1 p2) 3 rfl
  have J_4 := J.at_ (v := .slice Q q1 q2) 4 rfl
  have J_z := J.lt
  go_wp2_with fail
  refine (same_any (x := x) (y := an0 x.1) hA hE (IS.none_ .u32 0 _) (IS.none_ .i64 0 _) (by omega) (by omega) (by omega) (by omega)).mono ?_
  rintro e w2 ⟨rfl, K'⟩
  clear G_0 G_1 G_2 G_z
  clear J_0 J_1 J_2 J_3 J_4 J_z
  replace G := G.below K'
  replace J := J.below K'
  replace hA := hA.below K'
  replace hE := hE.below K'
  replace K := Below.then_ K K'
  clear K'
  go_wp2
  go_ret
  exact ⟨rfl, K⟩
set_option maxRecDepth 100000 in
set_option maxHeartbeats 4000000 in
theorem put_no1 (hA0 : IS .u32 lo4 w P p1 p2 x.2.2.2.1) (hE0 : IS .i64 lo5 w Q q1 q2 x.2.2.2.2) (b1 : p1 ≤ 60000) (b2 : q1 ≤ 60000) (he : x.1 = 11) (hk : k ≠ 6) :
    Calls Tryd.prog 31 #[.agg #[.int .i64 k, .int .u32 (X : Int), .slice C q f], .agg #[.int .i64 x.1, .int .u32 x.2.1, .bool x.2.2.1, .slice P p1 p2, .slice Q q1 q2]] w (RetBo false w) := by
  have g1 : (x.1 == 10) = false := by simp [he]
  have g2 : (x.1 == 12) = false := by simp [he]
  have g3 : (x.1 == 11) = true := by simp [he]
  have g4 : (k != 6) = true := by simp [hk]
  replace he := Lib.hid he
  replace hk := Lib.hid hk
  have hA := hA0
  have hE := hE0
  have K := Below.refl w.heap.size w
  go_enter Tryd.func31, Tryd.ntmps31
  go_upto_region 1 with (fail)
  have KS := K.size
  replace hA := hA.below (below_alloc _ (.cells #[.int .i64 k, .int .u32 (X : Int), .slice C q f] 30))
  replace hE := hE.below (below_alloc _ (.cells #[.int .i64 k, .int .u32 (X : Int), .slice C q f] 30))
  replace K := Below.then_ K (below_alloc _ (.cells #[.int .i64 k, .int .u32 (X : Int), .slice C q f] 30))
  have G := Bk.new (w) #[.int .i64 k, .int .u32 (X : Int), .slice C q f] 30
  replace G := G.alloc (.cells #[.int .i64 x.1, .int .u32 x.2.1, .bool x.2.2.1, .slice P p1 p2, .slice Q q1 q2] 34)
  replace hA := hA.below (below_alloc _ (.cells #[.int .i64 x.1, .int .u32 x.2.1, .bool x.2.2.1, .slice P p1 p2, .slice Q q1 q2] 34))
  replace hE := hE.below (below_alloc _ (.cells #[.int .i64 x.1, .int .u32 x.2.1, .bool x.2.2.1, .slice P p1 p2, .slice Q q1 q2] 34))
  replace K := Below.then_ K (below_alloc _ (.cells #[.int .i64 x.1, .int .u32 x.2.1, .bool x.2.2.1, .slice P p1 p2, .slice Q q1 q2] 34))
  have J := Bk.new ((w).alloc (.cells #[.int .i64 k, .int .u32 (X : Int), .slice C q f] 30)) #[.int .i64 x.1, .int .u32 x.2.1, .bool x.2.2.1, .slice P p1 p2, .slice Q q1 q2] 34
  try simp only [World.size_alloc] at G J
  generalize ((w).alloc (.cells #[.int .i64 k, .int .u32 (X : Int), .slice C q f] 30)).alloc (.cells #[.int .i64 x.1, .int .u32 x.2.1, .bool x.2.2.1, .slice P p1 p2, .slice Q q1 q2] 34) = w1 at G J hA hE K ⊢
  generalize hgJ : w.heap.size + 1 = gJ at G J ⊢
  generalize hgG : w.heap.size = gG at G J ⊢
  have G_b : w.heap.size ≤ gG := by omega
  have J_b : w.heap.size ≤ gJ := by omega
  have ne_G_J : gG ≠ gJ := by omega
  clear KS hgG hgJ 
  have G_0 := G.at_ (v := .int .i64 k) 0 rfl
  have G_1 := G.at_ (v := .int .u32 (X : Int)) 1 rfl
  have G_2 := G.at_ (v := .slice C q f) 2 rfl
  have G_z := G.lt
  have J_0 := J.at_ (v := .int .i64 x.1) 0 rfl
  have J_1 := J.at_ (v := .int .u32 x.2.1) 1 rfl
  have J_2 := J.at_ (v := .bool x.2.2.1) 2 rfl
  have J_3 := J.at_ (v := .slice P p1 p2) 3 rfl
  have J_4 := J.at_ (v := .slice Q q1 q2) 4 rfl
  have J_z := J.lt
  go_wp2
  go_ret
  exact ⟨rfl, K⟩
set_option maxRecDepth 100000 in
set_option maxHeartbeats 4000000 in
theorem put_no2 (hA0 : IS .u32 lo4 w P p1 p2 x.2.2.2.1) (hE0 : IS .i64 lo5 w Q q1 q2 x.2.2.2.2) (b1 : p1 ≤ 60000) (b2 : q1 ≤ 60000) (h1 : x.1 ≠ 10) (h2 : x.1 ≠ 12) (h3 : x.1 ≠ 11) :
    Calls Tryd.prog 31 #[.agg #[.int .i64 k, .int .u32 (X : Int), .slice C q f], .agg #[.int .i64 x.1, .int .u32 x.2.1, .bool x.2.2.1, .slice P p1 p2, .slice Q q1 q2]] w (RetBo false w) := by
  have g1 : (x.1 == 10) = false := by simp [h1]
  have g2 : (x.1 == 12) = false := by simp [h2]
  have g3 : (x.1 == 11) = false := by simp [h3]
  clear h1 h2 h3
  have hA := hA0
  have hE := hE0
  have K := Below.refl w.heap.size w
  go_enter Tryd.func31, Tryd.ntmps31
  go_upto_region 1 with (fail)
  have KS := K.size
  replace hA := hA.below (below_alloc _ (.cells #[.int .i64 k, .int .u32 (X : Int), .slice C q f] 30))
  replace hE := hE.below (below_alloc _ (.cells #[.int .i64 k, .int .u32 (X : Int), .slice C q f] 30))
  replace K := Below.then_ K (below_alloc _ (.cells #[.int .i64 k, .int .u32 (X : Int), .slice C q f] 30))
  have G := Bk.new (w) #[.int .i64 k, .int .u32 (X : Int), .slice C q f] 30
  replace G := G.alloc (.cells #[.int .i64 x.1, .int .u32 x.2.1, .bool x.2.2.1, .slice P p1 p2, .slice Q q1 q2] 34)
  replace hA := hA.below (below_alloc _ (.cells #[.int .i64 x.1, .int .u32 x.2.1, .bool x.2.2.1, .slice P p1 p2, .slice Q q1 q2] 34))
  replace hE := hE.below (below_alloc _ (.cells #[.int .i64 x.1, .int .u32 x.2.1, .bool x.2.2.1, .slice P p1 p2, .slice Q q1 q2] 34))
  replace K := Below.then_ K (below_alloc _ (.cells #[.int .i64 x.1, .int .u32 x.2.1, .bool x.2.2.1, .slice P p1 p2, .slice Q q1 q2] 34))
  have J := Bk.new ((w).alloc (.cells #[.int .i64 k, .int .u32 (X : Int), .slice C q f] 30)) #[.int .i64 x.1, .int .u32 x.2.1, .bool x.2.2.1, .slice P p1 p2, .slice Q q1 q2] 34
  try simp only [World.size_alloc] at G J
  generalize ((w).alloc (.cells #[.int .i64 k, .int .u32 (X : Int), .slice C q f] 30)).alloc (.cells #[.int .i64 x.1, .int .u32 x.2.1, .bool x.2.2.1, .slice P p1 p2, .slice Q q1 q2] 34) = w1 at G J hA hE K ⊢
  generalize hgJ : w.heap.size + 1 = gJ at G J ⊢
  generalize hgG : w.heap.size = gG at G J ⊢
  have G_b : w.heap.size ≤ gG := by omega
  have J_b : w.heap.size ≤ gJ := by omega
  have ne_G_J : gG ≠ gJ := by omega
  clear KS hgG hgJ 
  have G_0 := G.at_ (v := .int .i64 k) 0 rfl
  have G_1 := G.at_ (v := .int .u32 (X : Int)) 1 rfl
  have G_2 := G.at_ (v := .slice C q f) 2 rfl
  have G_z := G.lt
  have J_0 := J.at_ (v := .int .i64 x.1) 0 rfl
  have J_1 := J.at_ (v := .int .u32 x.2.1) 1 rfl
  have J_2 := J.at_ (v := .bool x.2.2.1) 2 rfl
  have J_3 := J.at_ (v := .slice P p1 p2) 3 rfl
  have J_4 := J.at_ (v := .slice Q q1 q2) 4 rfl
  have J_z := J.lt
  go_wp2
  go_ret
  exact ⟨rfl, K⟩
theorem put_any (hA0 : IS .u32 lo4 w P p1 p2 x.2.2.2.1) (hE0 : IS .i64 lo5 w Q q1 q2 x.2.2.2.2) (b1 : p1 ≤ 60000) (b2 : q1 ≤ 60000) :
    Calls Tryd.prog 31 #[.agg #[.int .i64 k, .int .u32 (X : Int), .slice C q f], .agg #[.int .i64 x.1, .int .u32 x.2.1, .bool x.2.2.1, .slice P p1 p2, .slice Q q1 q2]] w (RetBo (putO k x) w) := by
  unfold putO
  by_cases h1 : x.1 = 10 ∨ x.1 = 12
  · rw [show decide ((x.1 = 10 ∨ x.1 = 12 ∨ (x.1 = 11 ∧ k = 6)) ∧ x = an0 x.1) = decide (x = an0 x.1) by rw [decide_eq_decide]; exact ⟨fun h => h.2, fun h => ⟨by omega, h⟩⟩]
    rcases h1 with h1 | h1
    · exact put_busy1 hA0 hE0 b1 b2 h1
    · exact put_busy2 hA0 hE0 b1 b2 h1
  · by_cases h3 : x.1 = 11
    · by_cases hk : k = 6
      · rw [show decide ((x.1 = 10 ∨ x.1 = 12 ∨ (x.1 = 11 ∧ k = 6)) ∧ x = an0 x.1) = decide (x = an0 x.1) by rw [decide_eq_decide]; exact ⟨fun h => h.2, fun h => ⟨by omega, h⟩⟩]
        exact put_retry hA0 hE0 b1 b2 h3 hk
      · rw [show decide ((x.1 = 10 ∨ x.1 = 12 ∨ (x.1 = 11 ∧ k = 6)) ∧ x = an0 x.1) = false by rw [decide_eq_false_iff_not]; omega]
        exact put_no1 hA0 hE0 b1 b2 h3 hk
    · rw [show decide ((x.1 = 10 ∨ x.1 = 12 ∨ (x.1 = 11 ∧ k = 6)) ∧ x = an0 x.1) = false by rw [decide_eq_false_iff_not]; omega]
      exact put_no2 hA0 hE0 b1 b2 (by omega) (by omega) h3
set_option maxRecDepth 100000 in
set_option maxHeartbeats 4000000 in
theorem set_grant (hk : k = 1) (he : x.1 = 0) :
    Calls Tryd.prog 32 #[.agg #[.int .i64 k, .int .u32 (X : Int), .slice C q f], .agg #[.int .i64 x.1, .int .u32 x.2.1, .bool x.2.2.1, .slice P p1 p2, .slice Q q1 q2]] w fun e w' => e = .returned (.agg #[.int .i64 2, .int .u32 x.2.1, .slice none 0 0]) ∧ Below w.heap.size w w' := by
  have g1 : (k == 1) = true := by simp [hk]
  have g2 : (x.1 == 0) = true := by simp [he]
  clear hk he
  have K := Below.refl w.heap.size w
  go_enter Tryd.func32, Tryd.ntmps32
  go_upto_region 1 with (fail)
  have KS := K.size
  replace K := Below.then_ K (below_alloc _ (.cells #[.int .i64 k, .int .u32 (X : Int), .slice C q f] 30))
  have G := Bk.new (w) #[.int .i64 k, .int .u32 (X : Int), .slice C q f] 30
  replace G := G.alloc (.cells #[.int .i64 x.1, .int .u32 x.2.1, .bool x.2.2.1, .slice P p1 p2, .slice Q q1 q2] 34)
  replace K := Below.then_ K (below_alloc _ (.cells #[.int .i64 x.1, .int .u32 x.2.1, .bool x.2.2.1, .slice P p1 p2, .slice Q q1 q2] 34))
  have J := Bk.new ((w).alloc (.cells #[.int .i64 k, .int .u32 (X : Int), .slice C q f] 30)) #[.int .i64 x.1, .int .u32 x.2.1, .bool x.2.2.1, .slice P p1 p2, .slice Q q1 q2] 34
  replace G := G.alloc (.cells #[.int .i64 0, .int .u32 0, .slice none 0 0] 30)
  replace J := J.alloc (.cells #[.int .i64 0, .int .u32 0, .slice none 0 0] 30)
  replace K := Below.then_ K (below_alloc _ (.cells #[.int .i64 0, .int .u32 0, .slice none 0 0] 30))
  have R := Bk.new (((w).alloc (.cells #[.int .i64 k, .int .u32 (X : Int), .slice C q f] 30)).alloc (.cells #[.int .i64 x.1, .int .u32 x.2.1, .bool x.2.2.1, .slice P p1 p2, .slice Q q1 q2] 34)) #[.int .i64 0, .int .u32 0, .slice none 0 0] 30
  try simp only [World.size_alloc] at G J R
  generalize (((w).alloc (.cells #[.int .i64 k, .int .u32 (X : Int), .slice C q f] 30)).alloc (.cells #[.int .i64 x.1, .int .u32 x.2.1, .bool x.2.2.1, .slice P p1 p2, .slice Q q1 q2] 34)).alloc (.cells #[.int .i64 0, .int .u32 0, .slice none 0 0] 30) = w1 at G J R K ⊢
  generalize hgR : w.heap.size + 1 + 1 = gR at G J R ⊢
  generalize hgJ : w.heap.size + 1 = gJ at G J R ⊢
  generalize hgG : w.heap.size = gG at G J R ⊢
  have G_b : w.heap.size ≤ gG := by omega
  have J_b : w.heap.size ≤ gJ := by omega
  have R_b : w.heap.size ≤ gR := by omega
  have ne_G_J : gG ≠ gJ := by omega
  have ne_G_R : gG ≠ gR := by omega
  have ne_J_R : gJ ≠ gR := by omega
  clear KS hgG hgJ hgR 
  have G_0 := G.at_ (v := .int .i64 k) 0 rfl
  have G_1 := G.at_ (v := .int .u32 (X : Int)) 1 rfl
  have G_2 := G.at_ (v := .slice C q f) 2 rfl
  have G_z := G.lt
  have J_0 := J.at_ (v := .int .i64 x.1) 0 rfl
  have J_1 := J.at_ (v := .int .u32 x.2.1) 1 rfl
  have J_2 := J.at_ (v := .bool x.2.2.1) 2 rfl
  have J_3 := J.at_ (v := .slice P p1 p2) 3 rfl
  have J_4 := J.at_ (v := .slice Q q1 q2) 4 rfl
  have J_z := J.lt
  go_wp2_with (refine wpList_store_row rfl 30 (.tmp 4) (.tmp 15) rfl gR _ rfl (show _ = Value.agg #[.int .i64 2, .int .u32 x.2.1, .slice none 0 0] from rfl) _ _ R ak_sz rfl (by simp [Value.oneCell']) ?_)
  clear G_0 G_1 G_2 G_z
  clear J_0 J_1 J_2 J_3 J_4 J_z
  replace G := G.row_far ne_G_R #[.int .i64 2, .int .u32 x.2.1, .slice none 0 0]
  replace J := J.row_far ne_J_R #[.int .i64 2, .int .u32 x.2.1, .slice none 0 0]
  replace R := R.row #[.int .i64 2, .int .u32 x.2.1, .slice none 0 0]
  replace K := below_setRow K R_b #[.int .i64 2, .int .u32 x.2.1, .slice none 0 0]
  generalize w1.setRow gR #[.int .i64 2, .int .u32 x.2.1, .slice none 0 0] = w2 at G J R K ⊢
  refine bodyPost_ret (v := .agg #[.int .i64 2, .int .u32 x.2.1, .slice none 0 0]) ?_ rfl ?_
  · exact results_cell_row (fn := Tryd.f32) Tryd.results32 _ _ gR _ _ (0, 0) _ rfl R Tryd.underlying30 rfl ak_sz
  exact ⟨rfl, K⟩
set_option maxRecDepth 100000 in
set_option maxHeartbeats 4000000 in
theorem set_same1 (hk : k ≠ 1) :
    Calls Tryd.prog 32 #[.agg #[.int .i64 k, .int .u32 (X : Int), .slice C q f], .agg #[.int .i64 x.1, .int .u32 x.2.1, .bool x.2.2.1, .slice P p1 p2, .slice Q q1 q2]] w fun e w' => e = .returned (.agg #[.int .i64 k, .int .u32 (X : Int), .slice C q f]) ∧ Below w.heap.size w w' := by
  have g1 : (k == 1) = false := by simp [hk]
  clear hk
  have K := Below.refl w.heap.size w
  go_enter Tryd.func32, Tryd.ntmps32
  go_upto_region 1 with (fail)
  have KS := K.size
  replace K := Below.then_ K (below_alloc _ (.cells #[.int .i64 k, .int .u32 (X : Int), .slice C q f] 30))
  have G := Bk.new (w) #[.int .i64 k, .int .u32 (X : Int), .slice C q f] 30
  replace G := G.alloc (.cells #[.int .i64 x.1, .int .u32 x.2.1, .bool x.2.2.1, .slice P p1 p2, .slice Q q1 q2] 34)
  replace K := Below.then_ K (below_alloc _ (.cells #[.int .i64 x.1, .int .u32 x.2.1, .bool x.2.2.1, .slice P p1 p2, .slice Q q1 q2] 34))
  have J := Bk.new ((w).alloc (.cells #[.int .i64 k, .int .u32 (X : Int), .slice C q f] 30)) #[.int .i64 x.1, .int .u32 x.2.1, .bool x.2.2.1, .slice P p1 p2, .slice Q q1 q2] 34
  replace G := G.alloc (.cells #[.int .i64 0, .int .u32 0, .slice none 0 0] 30)
  replace J := J.alloc (.cells #[.int .i64 0, .int .u32 0, .slice none 0 0] 30)
  replace K := Below.then_ K (below_alloc _ (.cells #[.int .i64 0, .int .u32 0, .slice none 0 0] 30))
  have R := Bk.new (((w).alloc (.cells #[.int .i64 k, .int .u32 (X : Int), .slice C q f] 30)).alloc (.cells #[.int .i64 x.1, .int .u32 x.2.1, .bool x.2.2.1, .slice P p1 p2, .slice Q q1 q2] 34)) #[.int .i64 0, .int .u32 0, .slice none 0 0] 30
  try simp only [World.size_alloc] at G J R
  generalize (((w).alloc (.cells #[.int .i64 k, .int .u32 (X : Int), .slice C q f] 30)).alloc (.cells #[.int .i64 x.1, .int .u32 x.2.1, .bool x.2.2.1, .slice P p1 p2, .slice Q q1 q2] 34)).alloc (.cells #[.int .i64 0, .int .u32 0, .slice none 0 0] 30) = w1 at G J R K ⊢
  generalize hgR : w.heap.size + 1 + 1 = gR at G J R ⊢
  generalize hgJ : w.heap.size + 1 = gJ at G J R ⊢
  generalize hgG : w.heap.size = gG at G J R ⊢
  have G_b : w.heap.size ≤ gG := by omega
  have J_b : w.heap.size ≤ gJ := by omega
  have R_b : w.heap.size ≤ gR := by omega
  have ne_G_J : gG ≠ gJ := by omega
  have ne_G_R : gG ≠ gR := by omega
  have ne_J_R : gJ ≠ gR := by omega
  clear KS hgG hgJ hgR 
  have G_0 := G.at_ (v := .int .i64 k) 0 rfl
  have G_1 := G.at_ (v := .int .u32 (X : Int)) 1 rfl
  have G_2 := G.at_ (v := .slice C q f) 2 rfl
  have G_z := G.lt
  have J_0 := J.at_ (v := .int .i64 x.1) 0 rfl
  have J_1 := J.at_ (v := .int .u32 x.2.1) 1 rfl
  have J_2 := J.at_ (v := .bool x.2.2.1) 2 rfl
  have J_3 := J.at_ (v := .slice P p1 p2) 3 rfl
  have J_4 := J.at_ (v := .slice Q q1 q2) 4 rfl
  have J_z := J.lt
  go_wp2_with (refine wpList_store_row rfl 30 (.tmp 4) (.tmp 16) rfl gR _ rfl (show _ = Value.agg #[.int .i64 k, .int .u32 (X : Int), .slice C q f] from rfl) _ _ R ak_sz rfl (by simp [Value.oneCell']) ?_)
  clear G_0 G_1 G_2 G_z
  clear J_0 J_1 J_2 J_3 J_4 J_z
  replace G := G.row_far ne_G_R #[.int .i64 k, .int .u32 (X : Int), .slice C q f]
  replace J := J.row_far ne_J_R #[.int .i64 k, .int .u32 (X : Int), .slice C q f]
  replace R := R.row #[.int .i64 k, .int .u32 (X : Int), .slice C q f]
  replace K := below_setRow K R_b #[.int .i64 k, .int .u32 (X : Int), .slice C q f]
  generalize w1.setRow gR #[.int .i64 k, .int .u32 (X : Int), .slice C q f] = w2 at G J R K ⊢
  refine bodyPost_ret (v := .agg #[.int .i64 k, .int .u32 (X : Int), .slice C q f]) ?_ rfl ?_
  · exact results_cell_row (fn := Tryd.f32) Tryd.results32 _ _ gR _ _ (0, 0) _ rfl R Tryd.underlying30 rfl ak_sz
  exact ⟨rfl, K⟩
set_option maxRecDepth 100000 in
set_option maxHeartbeats 4000000 in
theorem set_same2 (hk : k = 1) (he : x.1 ≠ 0) :
    Calls Tryd.prog 32 #[.agg #[.int .i64 k, .int .u32 (X : Int), .slice C q f], .agg #[.int .i64 x.1, .int .u32 x.2.1, .bool x.2.2.1, .slice P p1 p2, .slice Q q1 q2]] w fun e w' => e = .returned (.agg #[.int .i64 k, .int .u32 (X : Int), .slice C q f]) ∧ Below w.heap.size w w' := by
  have g1 : (k == 1) = true := by simp [hk]
  have g2 : (x.1 == 0) = false := by simp [he]
  clear he hk
  have K := Below.refl w.heap.size w
  go_enter Tryd.func32, Tryd.ntmps32
  go_upto_region 1 with (fail)
  have KS := K.size
  replace K := Below.then_ K (below_alloc _ (.cells #[.int .i64 k, .int .u32 (X : Int), .slice C q f] 30))
  have G := Bk.new (w) #[.int .i64 k, .int .u32 (X : Int), .slice C q f] 30
  replace G := G.alloc (.cells #[.int .i64 x.1, .int .u32 x.2.1, .bool x.2.2.1, .slice P p1 p2, .slice Q q1 q2] 34)
  replace K := Below.then_ K (below_alloc _ (.cells #[.int .i64 x.1, .int .u32 x.2.1, .bool x.2.2.1, .slice P p1 p2, .slice Q q1 q2] 34))
  have J := Bk.new ((w).alloc (.cells #[.int .i64 k, .int .u32 (X : Int), .slice C q f] 30)) #[.int .i64 x.1, .int .u32 x.2.1, .bool x.2.2.1, .slice P p1 p2, .slice Q q1 q2] 34
  replace G := G.alloc (.cells #[.int .i64 0, .int .u32 0, .slice none 0 0] 30)
  replace J := J.alloc (.cells #[.int .i64 0, .int .u32 0, .slice none 0 0] 30)
  replace K := Below.then_ K (below_alloc _ (.cells #[.int .i64 0, .int .u32 0, .slice none 0 0] 30))
  have R := Bk.new (((w).alloc (.cells #[.int .i64 k, .int .u32 (X : Int), .slice C q f] 30)).alloc (.cells #[.int .i64 x.1, .int .u32 x.2.1, .bool x.2.2.1, .slice P p1 p2, .slice Q q1 q2] 34)) #[.int .i64 0, .int .u32 0, .slice none 0 0] 30
  try simp only [World.size_alloc] at G J R
  generalize (((w).alloc (.cells #[.int .i64 k, .int .u32 (X : Int), .slice C q f] 30)).alloc (.cells #[.int .i64 x.1, .int .u32 x.2.1, .bool x.2.2.1, .slice P p1 p2, .slice Q q1 q2] 34)).alloc (.cells #[.int .i64 0, .int .u32 0, .slice none 0 0] 30) = w1 at G J R K ⊢
  generalize hgR : w.heap.size + 1 + 1 = gR at G J R ⊢
  generalize hgJ : w.heap.size + 1 = gJ at G J R ⊢
  generalize hgG : w.heap.size = gG at G J R ⊢
  have G_b : w.heap.size ≤ gG := by omega
  have J_b : w.heap.size ≤ gJ := by omega
  have R_b : w.heap.size ≤ gR := by omega
  have ne_G_J : gG ≠ gJ := by omega
  have ne_G_R : gG ≠ gR := by omega
  have ne_J_R : gJ ≠ gR := by omega
  clear KS hgG hgJ hgR 
  have G_0 := G.at_ (v := .int .i64 k) 0 rfl
  have G_1 := G.at_ (v := .int .u32 (X : Int)) 1 rfl
  have G_2 := G.at_ (v := .slice C q f) 2 rfl
  have G_z := G.lt
  have J_0 := J.at_ (v := .int .i64 x.1) 0 rfl
  have J_1 := J.at_ (v := .int .u32 x.2.1) 1 rfl
  have J_2 := J.at_ (v := .bool x.2.2.1) 2 rfl
  have J_3 := J.at_ (v := .slice P p1 p2) 3 rfl
  have J_4 := J.at_ (v := .slice Q q1 q2) 4 rfl
  have J_z := J.lt
  go_wp2_with (refine wpList_store_row rfl 30 (.tmp 4) (.tmp 16) rfl gR _ rfl (show _ = Value.agg #[.int .i64 k, .int .u32 (X : Int), .slice C q f] from rfl) _ _ R ak_sz rfl (by simp [Value.oneCell']) ?_)
  clear G_0 G_1 G_2 G_z
  clear J_0 J_1 J_2 J_3 J_4 J_z
  replace G := G.row_far ne_G_R #[.int .i64 k, .int .u32 (X : Int), .slice C q f]
  replace J := J.row_far ne_J_R #[.int .i64 k, .int .u32 (X : Int), .slice C q f]
  replace R := R.row #[.int .i64 k, .int .u32 (X : Int), .slice C q f]
  replace K := below_setRow K R_b #[.int .i64 k, .int .u32 (X : Int), .slice C q f]
  generalize w1.setRow gR #[.int .i64 k, .int .u32 (X : Int), .slice C q f] = w2 at G J R K ⊢
  refine bodyPost_ret (v := .agg #[.int .i64 k, .int .u32 (X : Int), .slice C q f]) ?_ rfl ?_
  · exact results_cell_row (fn := Tryd.f32) Tryd.results32 _ _ gR _ _ (0, 0) _ rfl R Tryd.underlying30 rfl ak_sz
  exact ⟨rfl, K⟩
theorem set_same (h : ¬ (k = 1 ∧ x.1 = 0)) :
    Calls Tryd.prog 32 #[.agg #[.int .i64 k, .int .u32 (X : Int), .slice C q f], .agg #[.int .i64 x.1, .int .u32 x.2.1, .bool x.2.2.1, .slice P p1 p2, .slice Q q1 q2]] w fun e w' => e = .returned (.agg #[.int .i64 k, .int .u32 (X : Int), .slice C q f]) ∧ Below w.heap.size w w' := by
  by_cases hk : k = 1
  · exact set_same2 hk (fun g => h ⟨hk, g⟩)
  · exact set_same1 hk
set_option maxRecDepth 100000 in
set_option maxHeartbeats 4000000 in
theorem legal_put (hL0 : Laid w) (ha : a < 4294967296) (hM : Much a p M) (h0 : IS .i64 lo w A n c zs) (hn : n ≤ 65536) (hs0 : IS .i64 lo2 w B m d xs) (hm : m ≤ 60000) (hx : mayR M zs 0 xs = true) (hX : X < 4294967296) (hy0 : IS .u32 lo3 w C q f ys) (hq : q ≤ 60000) (hw : W32 ys) (hA0 : IS .u32 lo4 w P p1 p2 x.2.2.2.1) (hE0 : IS .i64 lo5 w Q q1 q2 x.2.2.2.2) (b1 : p1 ≤ 60000) (b2 : q1 ≤ 60000) (hp : putO k x = true) :
    Calls Tryd.prog 13 #[.agg #[.int .u32 (a : Int), .int .i64 p, .slice A n c, .int .i64 sh, .int .i64 wo, .int .i64 qu, .int .i64 tr], .slice B m d, .agg #[.int .i64 k, .int .u32 (X : Int), .slice C q f], .agg #[.int .i64 x.1, .int .u32 x.2.1, .bool x.2.2.1, .slice P p1 p2, .slice Q q1 q2]] w (RetLB B m (xs, true) w) := by
  have hL := hL0
  have h := h0
  have hs := hs0
  have hy := hy0
  have hA := hA0
  have hE := hE0
  have K := Below.refl w.heap.size w
  go_enter Tryd.func13, Tryd.ntmps13
  go_upto_region 1 with (fail)
  have KS := K.size
  replace hL := hL.below (below_alloc _ (.cells #[.int .u32 (a : Int), .int .i64 p, .slice A n c, .int .i64 sh, .int .i64 wo, .int .i64 qu, .int .i64 tr] 27))
  replace h := h.below (below_alloc _ (.cells #[.int .u32 (a : Int), .int .i64 p, .slice A n c, .int .i64 sh, .int .i64 wo, .int .i64 qu, .int .i64 tr] 27))
  replace hs := hs.below (below_alloc _ (.cells #[.int .u32 (a : Int), .int .i64 p, .slice A n c, .int .i64 sh, .int .i64 wo, .int .i64 qu, .int .i64 tr] 27))
  replace hy := hy.below (below_alloc _ (.cells #[.int .u32 (a : Int), .int .i64 p, .slice A n c, .int .i64 sh, .int .i64 wo, .int .i64 qu, .int .i64 tr] 27))
  replace hA := hA.below (below_alloc _ (.cells #[.int .u32 (a : Int), .int .i64 p, .slice A n c, .int .i64 sh, .int .i64 wo, .int .i64 qu, .int .i64 tr] 27))
  replace hE := hE.below (below_alloc _ (.cells #[.int .u32 (a : Int), .int .i64 p, .slice A n c, .int .i64 sh, .int .i64 wo, .int .i64 qu, .int .i64 tr] 27))
  replace K := Below.then_ K (below_alloc _ (.cells #[.int .u32 (a : Int), .int .i64 p, .slice A n c, .int .i64 sh, .int .i64 wo, .int .i64 qu, .int .i64 tr] 27))
  have H := Bk.new (w) #[.int .u32 (a : Int), .int .i64 p, .slice A n c, .int .i64 sh, .int .i64 wo, .int .i64 qu, .int .i64 tr] 27
  replace H := H.alloc (.cells #[.int .i64 k, .int .u32 (X : Int), .slice C q f] 30)
  replace hL := hL.below (below_alloc _ (.cells #[.int .i64 k, .int .u32 (X : Int), .slice C q f] 30))
  replace h := h.below (below_alloc _ (.cells #[.int .i64 k, .int .u32 (X : Int), .slice C q f] 30))
  replace hs := hs.below (below_alloc _ (.cells #[.int .i64 k, .int .u32 (X : Int), .slice C q f] 30))
  replace hy := hy.below (below_alloc _ (.cells #[.int .i64 k, .int .u32 (X : Int), .slice C q f] 30))
  replace hA := hA.below (below_alloc _ (.cells #[.int .i64 k, .int .u32 (X : Int), .slice C q f] 30))
  replace hE := hE.below (below_alloc _ (.cells #[.int .i64 k, .int .u32 (X : Int), .slice C q f] 30))
  replace K := Below.then_ K (below_alloc _ (.cells #[.int .i64 k, .int .u32 (X : Int), .slice C q f] 30))
  have G := Bk.new ((w).alloc (.cells #[.int .u32 (a : Int), .int .i64 p, .slice A n c, .int .i64 sh, .int .i64 wo, .int .i64 qu, .int .i64 tr] 27)) #[.int .i64 k, .int .u32 (X : Int), .slice C q f] 30
  replace H := H.alloc (.cells #[.int .i64 x.1, .int .u32 x.2.1, .bool x.2.2.1, .slice P p1 p2, .slice Q q1 q2] 34)
  replace G := G.alloc (.cells #[.int .i64 x.1, .int .u32 x.2.1, .bool x.2.2.1, .slice P p1 p2, .slice Q q1 q2] 34)
  replace hL := hL.below (below_alloc _ (.cells #[.int .i64 x.1, .int .u32 x.2.1, .bool x.2.2.1, .slice P p1 p2, .slice Q q1 q2] 34))
  replace h := h.below (below_alloc _ (.cells #[.int .i64 x.1, .int .u32 x.2.1, .bool x.2.2.1, .slice P p1 p2, .slice Q q1 q2] 34))
  replace hs := hs.below (below_alloc _ (.cells #[.int .i64 x.1, .int .u32 x.2.1, .bool x.2.2.1, .slice P p1 p2, .slice Q q1 q2] 34))
  replace hy := hy.below (below_alloc _ (.cells #[.int .i64 x.1, .int .u32 x.2.1, .bool x.2.2.1, .slice P p1 p2, .slice Q q1 q2] 34))
  replace hA := hA.below (below_alloc _ (.cells #[.int .i64 x.1, .int .u32 x.2.1, .bool x.2.2.1, .slice P p1 p2, .slice Q q1 q2] 34))
  replace hE := hE.below (below_alloc _ (.cells #[.int .i64 x.1, .int .u32 x.2.1, .bool x.2.2.1, .slice P p1 p2, .slice Q q1 q2] 34))
  replace K := Below.then_ K (below_alloc _ (.cells #[.int .i64 x.1, .int .u32 x.2.1, .bool x.2.2.1, .slice P p1 p2, .slice Q q1 q2] 34))
  have J := Bk.new (((w).alloc (.cells #[.int .u32 (a : Int), .int .i64 p, .slice A n c, .int .i64 sh, .int .i64 wo, .int .i64 qu, .int .i64 tr] 27)).alloc (.cells #[.int .i64 k, .int .u32 (X : Int), .slice C q f] 30)) #[.int .i64 x.1, .int .u32 x.2.1, .bool x.2.2.1, .slice P p1 p2, .slice Q q1 q2] 34
  try simp only [World.size_alloc] at H G J
  generalize (((w).alloc (.cells #[.int .u32 (a : Int), .int .i64 p, .slice A n c, .int .i64 sh, .int .i64 wo, .int .i64 qu, .int .i64 tr] 27)).alloc (.cells #[.int .i64 k, .int .u32 (X : Int), .slice C q f] 30)).alloc (.cells #[.int .i64 x.1, .int .u32 x.2.1, .bool x.2.2.1, .slice P p1 p2, .slice Q q1 q2] 34) = w1 at H G J hL h hs hy hA hE K ⊢
  generalize hgJ : w.heap.size + 1 + 1 = gJ at H G J ⊢
  generalize hgG : w.heap.size + 1 = gG at H G J ⊢
  generalize hgH : w.heap.size = gH at H G J ⊢
  have H_b : w.heap.size ≤ gH := by omega
  have G_b : w.heap.size ≤ gG := by omega
  have J_b : w.heap.size ≤ gJ := by omega
  have ne_H_G : gH ≠ gG := by omega
  have ne_H_J : gH ≠ gJ := by omega
  have ne_G_J : gG ≠ gJ := by omega
  clear KS hgH hgG hgJ 
  have T := put_any (k := k) (X := X) (C := C) (q := q) (f := f) hA hE b1 b2
  rw [hp] at T
  replace T := Lib.hid T
  have G_0 := G.at_ (v := .int .i64 k) 0 rfl
  have G_1 := G.at_ (v := .int .u32 (X : Int)) 1 rfl
  have G_2 := G.at_ (v := .slice C q f) 2 rfl
  have G_z := G.lt
  have J_0 := J.at_ (v := .int .i64 x.1) 0 rfl
  have J_1 := J.at_ (v := .int .u32 x.2.1) 1 rfl
  have J_2 := J.at_ (v := .bool x.2.2.1) 2 rfl
  have J_3 := J.at_ (v := .slice P p1 p2) 3 rfl
  have J_4 := J.at_ (v := .slice Q q1 q2) 4 rfl
  have J_z := J.lt
  go_wp2_with fail
  refine (T.out).mono ?_
  rintro e w2 ⟨rfl, K'⟩
  clear G_0 G_1 G_2 G_z
  clear J_0 J_1 J_2 J_3 J_4 J_z
  replace H := H.below K'
  replace G := G.below K'
  replace J := J.below K'
  replace hL := hL.below K'
  replace h := h.below K'
  replace hs := hs.below K'
  replace hy := hy.below K'
  replace hA := hA.below K'
  replace hE := hE.below K'
  replace K := Below.then_ K K'
  clear K'
  clear T
  go_wp2
  go_ret2
  exact ⟨_, _, _, rfl, hs.lower (Nat.zero_le _), (fun _ _ h => h), K⟩
set_option maxRecDepth 100000 in
set_option maxHeartbeats 4000000 in
theorem legal_ex_yes (hL0 : Laid w) (ha : a < 4294967296) (hM : Much a p M) (h0 : IS .i64 lo w A n c zs) (hn : n ≤ 65536) (hs0 : IS .i64 lo2 w B m d xs) (hm : m ≤ 60000) (hx : mayR M zs 0 xs = true) (hX : X < 4294967296) (hy0 : IS .u32 lo3 w C q f ys) (hq : q ≤ 60000) (hw : W32 ys) (hA0 : IS .u32 lo4 w P p1 p2 x.2.2.2.1) (hE0 : IS .i64 lo5 w Q q1 q2 x.2.2.2.2) (b1 : p1 ≤ 60000) (b2 : q1 ≤ 60000) (hp : putO k x = false) (hk : k = 1) (he : x.1 = 0) (hA1 : 0 ≤ x.2.1 ∧ x.2.1 < 4294967296) {r : List Int × An} (hdo : stS a M zs xs k X ys x = r) (hsm : x = r.2) :
    Calls Tryd.prog 13 #[.agg #[.int .u32 (a : Int), .int .i64 p, .slice A n c, .int .i64 sh, .int .i64 wo, .int .i64 qu, .int .i64 tr], .slice B m d, .agg #[.int .i64 k, .int .u32 (X : Int), .slice C q f], .agg #[.int .i64 x.1, .int .u32 x.2.1, .bool x.2.2.1, .slice P p1 p2, .slice Q q1 q2]] w (RetLB B m (r.1, true) w) := by
  replace hw := Lib.hid hw
  have hsb := Lib.hid hsm
  have hrl : Hid (r.2.2.2.2.1.length ≤ m ∧ r.2.2.2.2.2.length ≤ q) := Lib.hid (by rw [← hdo, ← hs0.len, ← hy0.len]; exact stS_len k X ys x)
  replace hx := Lib.hid hx
  obtain ⟨Y, hY⟩ : ∃ Y : Nat, x.2.1 = (Y : Int) := ⟨x.2.1.toNat, by omega⟩
  have hY2 : Y < 4294967296 := by omega
  have hYn : x.2.1.toNat = Y := by omega
  have hd2 : someS a M zs xs 2 Y [] = r := by rw [← hdo]; unfold stS; rw [if_pos ⟨hk, he⟩, hYn]
  have TS := fun w => Lib.hid (set_grant (w := w) (X := X) (C := C) (q := q) (f := f) (P := P) (p1 := p1) (p2 := p2) (Q := Q) (q1 := q1) (q2 := q2) hk he)
  have TD := fun w (hL0 : Laid w) (h0 : IS .i64 lo w A n c zs) (hs0 : IS .i64 lo2 w B m d xs) => Lib.hid (show Calls _ _ #[.agg #[.int .u32 (a : Int), .int .i64 p, .slice A n c, .int .i64 sh, .int .i64 wo, .int .i64 qu, .int .i64 tr], .slice B m d, .agg #[.int .i64 2, .int .u32 x.2.1, .slice none 0 0]] w (RetSA B m r.1 r.2 w) from by rw [← hd2, hY]; exact some_any (k := 2) (X := Y) (sh := sh) (wo := wo) (qu := qu) (tr := tr) hL0 ha hM h0 hn hs0 hm hx.out hY2 (IS.none_ .u32 0 _) (by omega) (fun y hy => by cases hy))
  clear hk he hY hYn hd2 hdo hA1
  clear hsm
  have hL := hL0
  have h := h0
  have hs := hs0
  have hy := hy0
  have hA := hA0
  have hE := hE0
  have K := Below.refl w.heap.size w
  go_enter Tryd.func13, Tryd.ntmps13
  go_upto_region 1 with (fail)
  have KS := K.size
  replace hL := hL.below (below_alloc _ (.cells #[.int .u32 (a : Int), .int .i64 p, .slice A n c, .int .i64 sh, .int .i64 wo, .int .i64 qu, .int .i64 tr] 27))
  replace h := h.below (below_alloc _ (.cells #[.int .u32 (a : Int), .int .i64 p, .slice A n c, .int .i64 sh, .int .i64 wo, .int .i64 qu, .int .i64 tr] 27))
  replace hs := hs.below (below_alloc _ (.cells #[.int .u32 (a : Int), .int .i64 p, .slice A n c, .int .i64 sh, .int .i64 wo, .int .i64 qu, .int .i64 tr] 27))
  replace hy := hy.below (below_alloc _ (.cells #[.int .u32 (a : Int), .int .i64 p, .slice A n c, .int .i64 sh, .int .i64 wo, .int .i64 qu, .int .i64 tr] 27))
  replace hA := hA.below (below_alloc _ (.cells #[.int .u32 (a : Int), .int .i64 p, .slice A n c, .int .i64 sh, .int .i64 wo, .int .i64 qu, .int .i64 tr] 27))
  replace hE := hE.below (below_alloc _ (.cells #[.int .u32 (a : Int), .int .i64 p, .slice A n c, .int .i64 sh, .int .i64 wo, .int .i64 qu, .int .i64 tr] 27))
  replace K := Below.then_ K (below_alloc _ (.cells #[.int .u32 (a : Int), .int .i64 p, .slice A n c, .int .i64 sh, .int .i64 wo, .int .i64 qu, .int .i64 tr] 27))
  have H := Bk.new (w) #[.int .u32 (a : Int), .int .i64 p, .slice A n c, .int .i64 sh, .int .i64 wo, .int .i64 qu, .int .i64 tr] 27
  replace H := H.alloc (.cells #[.int .i64 k, .int .u32 (X : Int), .slice C q f] 30)
  replace hL := hL.below (below_alloc _ (.cells #[.int .i64 k, .int .u32 (X : Int), .slice C q f] 30))
  replace h := h.below (below_alloc _ (.cells #[.int .i64 k, .int .u32 (X : Int), .slice C q f] 30))
  replace hs := hs.below (below_alloc _ (.cells #[.int .i64 k, .int .u32 (X : Int), .slice C q f] 30))
  replace hy := hy.below (below_alloc _ (.cells #[.int .i64 k, .int .u32 (X : Int), .slice C q f] 30))
  replace hA := hA.below (below_alloc _ (.cells #[.int .i64 k, .int .u32 (X : Int), .slice C q f] 30))
  replace hE := hE.below (below_alloc _ (.cells #[.int .i64 k, .int .u32 (X : Int), .slice C q f] 30))
  replace K := Below.then_ K (below_alloc _ (.cells #[.int .i64 k, .int .u32 (X : Int), .slice C q f] 30))
  have G := Bk.new ((w).alloc (.cells #[.int .u32 (a : Int), .int .i64 p, .slice A n c, .int .i64 sh, .int .i64 wo, .int .i64 qu, .int .i64 tr] 27)) #[.int .i64 k, .int .u32 (X : Int), .slice C q f] 30
  replace H := H.alloc (.cells #[.int .i64 x.1, .int .u32 x.2.1, .bool x.2.2.1, .slice P p1 p2, .slice Q q1 q2] 34)
  replace G := G.alloc (.cells #[.int .i64 x.1, .int .u32 x.2.1, .bool x.2.2.1, .slice P p1 p2, .slice Q q1 q2] 34)
  replace hL := hL.below (below_alloc _ (.cells #[.int .i64 x.1, .int .u32 x.2.1, .bool x.2.2.1, .slice P p1 p2, .slice Q q1 q2] 34))
  replace h := h.below (below_alloc _ (.cells #[.int .i64 x.1, .int .u32 x.2.1, .bool x.2.2.1, .slice P p1 p2, .slice Q q1 q2] 34))
  replace hs := hs.below (below_alloc _ (.cells #[.int .i64 x.1, .int .u32 x.2.1, .bool x.2.2.1, .slice P p1 p2, .slice Q q1 q2] 34))
  replace hy := hy.below (below_alloc _ (.cells #[.int .i64 x.1, .int .u32 x.2.1, .bool x.2.2.1, .slice P p1 p2, .slice Q q1 q2] 34))
  replace hA := hA.below (below_alloc _ (.cells #[.int .i64 x.1, .int .u32 x.2.1, .bool x.2.2.1, .slice P p1 p2, .slice Q q1 q2] 34))
  replace hE := hE.below (below_alloc _ (.cells #[.int .i64 x.1, .int .u32 x.2.1, .bool x.2.2.1, .slice P p1 p2, .slice Q q1 q2] 34))
  replace K := Below.then_ K (below_alloc _ (.cells #[.int .i64 x.1, .int .u32 x.2.1, .bool x.2.2.1, .slice P p1 p2, .slice Q q1 q2] 34))
  have J := Bk.new (((w).alloc (.cells #[.int .u32 (a : Int), .int .i64 p, .slice A n c, .int .i64 sh, .int .i64 wo, .int .i64 qu, .int .i64 tr] 27)).alloc (.cells #[.int .i64 k, .int .u32 (X : Int), .slice C q f] 30)) #[.int .i64 x.1, .int .u32 x.2.1, .bool x.2.2.1, .slice P p1 p2, .slice Q q1 q2] 34
  try simp only [World.size_alloc] at H G J
  generalize (((w).alloc (.cells #[.int .u32 (a : Int), .int .i64 p, .slice A n c, .int .i64 sh, .int .i64 wo, .int .i64 qu, .int .i64 tr] 27)).alloc (.cells #[.int .i64 k, .int .u32 (X : Int), .slice C q f] 30)).alloc (.cells #[.int .i64 x.1, .int .u32 x.2.1, .bool x.2.2.1, .slice P p1 p2, .slice Q q1 q2] 34) = w1 at H G J hL h hs hy hA hE K ⊢
  generalize hgJ : w.heap.size + 1 + 1 = gJ at H G J ⊢
  generalize hgG : w.heap.size + 1 = gG at H G J ⊢
  generalize hgH : w.heap.size = gH at H G J ⊢
  have H_b : w.heap.size ≤ gH := by omega
  have G_b : w.heap.size ≤ gG := by omega
  have J_b : w.heap.size ≤ gJ := by omega
  have ne_H_G : gH ≠ gG := by omega
  have ne_H_J : gH ≠ gJ := by omega
  have ne_G_J : gG ≠ gJ := by omega
  clear KS hgH hgG hgJ 
  have T := put_any (k := k) (X := X) (C := C) (q := q) (f := f) hA hE b1 b2
  rw [hp] at T
  replace T := Lib.hid T
  have G_0 := G.at_ (v := .int .i64 k) 0 rfl
  have G_1 := G.at_ (v := .int .u32 (X : Int)) 1 rfl
  have G_2 := G.at_ (v := .slice C q f) 2 rfl
  have G_z := G.lt
  have J_0 := J.at_ (v := .int .i64 x.1) 0 rfl
  have J_1 := J.at_ (v := .int .u32 x.2.1) 1 rfl
  have J_2 := J.at_ (v := .bool x.2.2.1) 2 rfl
  have J_3 := J.at_ (v := .slice P p1 p2) 3 rfl
  have J_4 := J.at_ (v := .slice Q q1 q2) 4 rfl
  have J_z := J.lt
  go_wp2_with fail
  refine (T.out).mono ?_
  rintro e w2 ⟨rfl, K'⟩
  clear G_0 G_1 G_2 G_z
  clear J_0 J_1 J_2 J_3 J_4 J_z
  replace H := H.below K'
  replace G := G.below K'
  replace J := J.below K'
  replace hL := hL.below K'
  replace h := h.below K'
  replace hs := hs.below K'
  replace hy := hy.below K'
  replace hA := hA.below K'
  replace hE := hE.below K'
  replace K := Below.then_ K K'
  clear K'
  clear T
  go_wp2
  refine wp_region_held_drew (S := fun w' => Below w.heap.size w w' ∧ Bk w' gH 27 #[.int .u32 (a : Int), .int .i64 p, .slice A n c, .int .i64 sh, .int .i64 wo, .int .i64 qu, .int .i64 tr] ∧ Bk w' gG 30 #[.int .i64 k, .int .u32 (X : Int), .slice C q f] ∧ Bk w' gJ 34 #[.int .i64 x.1, .int .u32 x.2.1, .bool x.2.2.1, .slice P p1 p2, .slice Q q1 q2] ∧ True) (by kernel_rfl) ⟨K.drew, H.below ((Below.refl _ _).drew), G.below ((Below.refl _ _).drew), J.below ((Below.refl _ _).drew), trivial⟩ (fun hHeld => ?_)
  generalize w2.drew = v3 at hHeld  ⊢
  refine wpAnyH_take (i := 0) (oi := ⟨some 17, _, _, _, _, _⟩) (v := ?_) rfl (by kernel_rfl) (by kernel_rfl) (by kernel_rfl) (fun _ _ _ h => h) (Or.inl ⟨by rfl, ?_⟩) hHeld ?_
  rotate_left
  · intro ww hSw
    try dsimp only at hSw
    have H_0 := (hSw.2.1).at_ (v := .int .u32 (a : Int)) 0 rfl
    have H_1 := (hSw.2.1).at_ (v := .int .i64 p) 1 rfl
    have H_2 := (hSw.2.1).at_ (v := .slice A n c) 2 rfl
    have H_3 := (hSw.2.1).at_ (v := .int .i64 sh) 3 rfl
    have H_4 := (hSw.2.1).at_ (v := .int .i64 wo) 4 rfl
    have H_5 := (hSw.2.1).at_ (v := .int .i64 qu) 5 rfl
    have H_6 := (hSw.2.1).at_ (v := .int .i64 tr) 6 rfl
    have H_z := (hSw.2.1).lt
    have G_0 := (hSw.2.2.1).at_ (v := .int .i64 k) 0 rfl
    have G_1 := (hSw.2.2.1).at_ (v := .int .u32 (X : Int)) 1 rfl
    have G_2 := (hSw.2.2.1).at_ (v := .slice C q f) 2 rfl
    have G_z := (hSw.2.2.1).lt
    have J_0 := (hSw.2.2.2.1).at_ (v := .int .i64 x.1) 0 rfl
    have J_1 := (hSw.2.2.2.1).at_ (v := .int .u32 x.2.1) 1 rfl
    have J_2 := (hSw.2.2.2.1).at_ (v := .bool x.2.2.1) 2 rfl
    have J_3 := (hSw.2.2.2.1).at_ (v := .slice P p1 p2) 3 rfl
    have J_4 := (hSw.2.2.2.1).at_ (v := .slice Q q1 q2) 4 rfl
    have J_z := (hSw.2.2.2.1).lt
    go_simp
    try with_reducible rfl
    try omega
  try simp only [Act.put, List.setIfInBounds_toArray, List.set_cons_zero, List.set_cons_succ]
  refine wpAnyH_take (i := 1) (oi := ⟨some 18, _, _, _, _, _⟩) (v := ?_) rfl (by kernel_rfl) (by kernel_rfl) (by kernel_rfl) (fun _ _ _ h => h) (Or.inl ⟨by rfl, ?_⟩) hHeld ?_
  rotate_left
  · intro ww hSw
    try dsimp only at hSw
    go_simp
    try with_reducible rfl
    try omega
  try simp only [Act.put, List.setIfInBounds_toArray, List.set_cons_zero, List.set_cons_succ]
  refine wpAnyH_take (i := 2) (oi := ⟨some 19, _, _, _, _, _⟩) (v := ?_) rfl (by kernel_rfl) (by kernel_rfl) (by kernel_rfl) (fun _ _ _ h => h) (Or.inl ⟨by rfl, ?_⟩) hHeld ?_
  rotate_left
  · intro ww hSw
    try dsimp only at hSw
    have H_0 := (hSw.2.1).at_ (v := .int .u32 (a : Int)) 0 rfl
    have H_1 := (hSw.2.1).at_ (v := .int .i64 p) 1 rfl
    have H_2 := (hSw.2.1).at_ (v := .slice A n c) 2 rfl
    have H_3 := (hSw.2.1).at_ (v := .int .i64 sh) 3 rfl
    have H_4 := (hSw.2.1).at_ (v := .int .i64 wo) 4 rfl
    have H_5 := (hSw.2.1).at_ (v := .int .i64 qu) 5 rfl
    have H_6 := (hSw.2.1).at_ (v := .int .i64 tr) 6 rfl
    have H_z := (hSw.2.1).lt
    have G_0 := (hSw.2.2.1).at_ (v := .int .i64 k) 0 rfl
    have G_1 := (hSw.2.2.1).at_ (v := .int .u32 (X : Int)) 1 rfl
    have G_2 := (hSw.2.2.1).at_ (v := .slice C q f) 2 rfl
    have G_z := (hSw.2.2.1).lt
    have J_0 := (hSw.2.2.2.1).at_ (v := .int .i64 x.1) 0 rfl
    have J_1 := (hSw.2.2.2.1).at_ (v := .int .u32 x.2.1) 1 rfl
    have J_2 := (hSw.2.2.2.1).at_ (v := .bool x.2.2.1) 2 rfl
    have J_3 := (hSw.2.2.2.1).at_ (v := .slice P p1 p2) 3 rfl
    have J_4 := (hSw.2.2.2.1).at_ (v := .slice Q q1 q2) 4 rfl
    have J_z := (hSw.2.2.2.1).lt
    go_simp
    try with_reducible rfl
    try omega
  try simp only [Act.put, List.setIfInBounds_toArray, List.set_cons_zero, List.set_cons_succ]
  refine wpAnyH_take (i := 3) (oi := ⟨some 20, _, _, _, _, _⟩) (v := ?_) rfl (by kernel_rfl) (by kernel_rfl) (by kernel_rfl) (fun _ _ _ h => h) (Or.inl ⟨by rfl, ?_⟩) hHeld ?_
  rotate_left
  · intro ww hSw
    try dsimp only at hSw
    have H_0 := (hSw.2.1).at_ (v := .int .u32 (a : Int)) 0 rfl
    have H_1 := (hSw.2.1).at_ (v := .int .i64 p) 1 rfl
    have H_2 := (hSw.2.1).at_ (v := .slice A n c) 2 rfl
    have H_3 := (hSw.2.1).at_ (v := .int .i64 sh) 3 rfl
    have H_4 := (hSw.2.1).at_ (v := .int .i64 wo) 4 rfl
    have H_5 := (hSw.2.1).at_ (v := .int .i64 qu) 5 rfl
    have H_6 := (hSw.2.1).at_ (v := .int .i64 tr) 6 rfl
    have H_z := (hSw.2.1).lt
    have G_0 := (hSw.2.2.1).at_ (v := .int .i64 k) 0 rfl
    have G_1 := (hSw.2.2.1).at_ (v := .int .u32 (X : Int)) 1 rfl
    have G_2 := (hSw.2.2.1).at_ (v := .slice C q f) 2 rfl
    have G_z := (hSw.2.2.1).lt
    have J_0 := (hSw.2.2.2.1).at_ (v := .int .i64 x.1) 0 rfl
    have J_1 := (hSw.2.2.2.1).at_ (v := .int .u32 x.2.1) 1 rfl
    have J_2 := (hSw.2.2.2.1).at_ (v := .bool x.2.2.1) 2 rfl
    have J_3 := (hSw.2.2.2.1).at_ (v := .slice P p1 p2) 3 rfl
    have J_4 := (hSw.2.2.2.1).at_ (v := .slice Q q1 q2) 4 rfl
    have J_z := (hSw.2.2.2.1).lt
    go_simp
    try with_reducible rfl
    try omega
  try simp only [Act.put, List.setIfInBounds_toArray, List.set_cons_zero, List.set_cons_succ]
  refine wpAnyH_ready (rs := [4, 9]) (by kernel_rfl) (by simp) ?_
  refine AllReadyH.cons (o := ⟨some 21, _, _, _, _, _⟩) rfl (fun K0 hK => ?_) ?_
  · go_simp
    refine ((TS _).out).mono ?_
    rintro e v4 ⟨rfl, K'⟩
    refine hK.out _ _ ⟨Below.then_ hHeld.1 K', hHeld.2.1.below K', hHeld.2.2.1.below K', hHeld.2.2.2.1.below K', trivial⟩ (fun hHeld' => ?_)
    clear hHeld K' hK K0
    have hHeld := hHeld'
    clear hHeld'
    try simp only [Act.put, List.setIfInBounds_toArray, List.set_cons_zero, List.set_cons_succ]
    refine wpAnyH_ready (rs := [5, 9]) (by kernel_rfl) (by simp) ?_
    refine AllReadyH.cons (o := ⟨some 22, _, _, _, _, _⟩) rfl (fun K0 hK => ?_) ?_
    · go_simp
      refine ((TD _ (hL0.below hHeld.1) (h0.below hHeld.1) (hs0.below hHeld.1)).out).mono ?_
      have H_l := (hHeld.2.1).lt
      have G_l := (hHeld.2.2.1).lt
      have J_l := (hHeld.2.2.2.1).lt
      rintro e v5 ⟨SA, Sn, Sc, DA, Dn, Dc, EA, En, Ec, rfl, S, hav, D, E, K'⟩
      have hav0 : ∀ g, g < w.heap.size → Av g B m → Av g SA Sn := fun g hg => hav g (Nat.lt_of_lt_of_le hg (Below.size hHeld.1))
      replace D := D.lower (Below.size hHeld.1)
      replace E := E.lower (Below.size hHeld.1)
      clear hav TD
      refine hK.out _ _ ⟨Below.then_ hHeld.1 K', hHeld.2.1.below K', hHeld.2.2.1.below K', hHeld.2.2.2.1.below K', trivial⟩ (fun hHeld' => ?_)
      clear hHeld K' hK K0
      clear H_l G_l J_l
      have hHeld := hHeld'
      clear hHeld'
      try simp only [Act.put, List.setIfInBounds_toArray, List.set_cons_zero, List.set_cons_succ]
      refine wpAnyH_take (i := 6) (oi := ⟨some 16, _, _, _, _, _⟩) (v := ?_) rfl (by kernel_rfl) (by kernel_rfl) (by kernel_rfl) (fun _ _ _ h => h) (Or.inl ⟨by rfl, ?_⟩) hHeld ?_
      rotate_left
      · intro ww hSw
        try dsimp only at hSw
        go_simp
        try with_reducible rfl
        try omega
      try simp only [Act.put, List.setIfInBounds_toArray, List.set_cons_zero, List.set_cons_succ]
      refine wpAnyH_take (i := 7) (oi := ⟨some 23, _, _, _, _, _⟩) (v := ?_) rfl (by kernel_rfl) (by kernel_rfl) (by kernel_rfl) (fun _ _ _ h => h) (Or.inl ⟨by rfl, ?_⟩) hHeld ?_
      rotate_left
      · intro ww hSw
        try dsimp only at hSw
        go_simp
        try with_reducible rfl
        try omega
      try simp only [Act.put, List.setIfInBounds_toArray, List.set_cons_zero, List.set_cons_succ]
      refine wpAnyH_take (i := 8) (oi := ⟨some 24, _, _, _, _, _⟩) (v := ?_) rfl (by kernel_rfl) (by kernel_rfl) (by kernel_rfl) (fun _ _ _ h => h) (Or.inl ⟨by rfl, ?_⟩) hHeld ?_
      rotate_left
      · intro ww hSw
        try dsimp only at hSw
        go_simp
        try with_reducible rfl
        try omega
      try simp only [Act.put, List.setIfInBounds_toArray, List.set_cons_zero, List.set_cons_succ]
      refine wpAnyH_ready (rs := [9]) (by kernel_rfl) (by simp) ?_
      refine AllReadyH.cons (o := ⟨some 11, _, _, _, _, _⟩) rfl (fun K0 hK => ?_) AllReadyH.nil
      have K' := below_alloc v5 (.cells #[.int .i64 0, .int .u32 0, .bool false, .slice none 0 0, .slice none 0 0] 34)
      have V := Bk.new v5 #[.int .i64 0, .int .u32 0, .bool false, .slice none 0 0, .slice none 0 0] 34
      have KS := hHeld.1.size
      have V_b : w.heap.size ≤ v5.heap.size := by omega
      have ne_H_V : gH ≠ v5.heap.size := by have := (hHeld.2.1).lt; omega
      have ne_G_V : gG ≠ v5.heap.size := by have := (hHeld.2.2.1).lt; omega
      have ne_J_V : gJ ≠ v5.heap.size := by have := (hHeld.2.2.2.1).lt; omega
      have S_V := S.av_old (Nat.le_refl v5.heap.size)
      have D_V := D.av_old (Nat.le_refl v5.heap.size)
      have E_V := E.av_old (Nat.le_refl v5.heap.size)
      clear KS
      go_simp
      refine hK.out _ _ ⟨Below.then_ hHeld.1 K', hHeld.2.1.below K', hHeld.2.2.1.below K', hHeld.2.2.2.1.below K', trivial⟩ (fun hHeld' => ?_)
      replace S := S.below K'
      replace D := D.below K'
      replace E := E.below K'
      clear hHeld hK K0 K'
      have hHeld := hHeld'
      clear hHeld'
      generalize v5.alloc (.cells #[.int .i64 0, .int .u32 0, .bool false, .slice none 0 0, .slice none 0 0] 34) = v6 at hHeld V S D E ⊢
      generalize v5.heap.size = gV at V V_b ne_H_V ne_G_V ne_J_V S_V D_V E_V ⊢
      try simp only [Act.put, List.setIfInBounds_toArray, List.set_cons_zero, List.set_cons_succ]
      refine wpAnyH_take (i := 10) (oi := ⟨some 10, _, _, _, _, _⟩) (v := ?_) rfl (by kernel_rfl) (by kernel_rfl) (by kernel_rfl) (fun _ _ _ h => h) (Or.inl ⟨by rfl, ?_⟩) hHeld ?_
      rotate_left
      · intro ww hSw
        try dsimp only at hSw
        go_simp
        try with_reducible rfl
        try omega
      try simp only [Act.put, List.setIfInBounds_toArray, List.set_cons_zero, List.set_cons_succ]
      refine wpAnyH_ready (rs := [11]) (by kernel_rfl) (by simp) ?_
      refine AllReadyH.cons (o := ⟨none, _, _, _, _, _⟩) rfl (fun K0 hK => ?_) AllReadyH.nil
      rw [if_pos (by rfl)]
      refine wp_store_row 34 (.tmp 11) (.tmp 24) rfl gV _ rfl (show _ = Value.agg #[.int .i64 r.2.1, .int .u32 r.2.2.1, .bool r.2.2.2.1, .slice DA Dn Dc, .slice EA En Ec] from rfl) _ _ V an_sz rfl (by simp [Value.oneCell']) ?_
      replace V := Bk.row V #[.int .i64 r.2.1, .int .u32 r.2.2.1, .bool r.2.2.2.1, .slice DA Dn Dc, .slice EA En Ec]
      refine hK.out _ _ ⟨below_setRow hHeld.1 V_b _, hHeld.2.1.row_far ne_H_V _, hHeld.2.2.1.row_far ne_G_V _, hHeld.2.2.2.1.row_far ne_J_V _, trivial⟩ (fun hHeld' => ?_)
      replace S := S.row_av S_V #[.int .i64 r.2.1, .int .u32 r.2.2.1, .bool r.2.2.2.1, .slice DA Dn Dc, .slice EA En Ec]
      replace D := D.row_av D_V #[.int .i64 r.2.1, .int .u32 r.2.2.1, .bool r.2.2.2.1, .slice DA Dn Dc, .slice EA En Ec]
      replace E := E.row_av E_V #[.int .i64 r.2.1, .int .u32 r.2.2.1, .bool r.2.2.2.1, .slice DA Dn Dc, .slice EA En Ec]
      clear hHeld hK K0
      have hHeld := hHeld'
      clear hHeld'
      generalize v6.setRow gV #[.int .i64 r.2.1, .int .u32 r.2.2.1, .bool r.2.2.2.1, .slice DA Dn Dc, .slice EA En Ec] = v7 at hHeld  S D E V ⊢
      try simp only [Act.put]
      refine wpAnyH_done (by kernel_rfl) ?_ _
      replace K := hHeld.1
      replace H := hHeld.2.1
      replace G := hHeld.2.2.1
      replace J := hHeld.2.2.2.1
      clear hHeld
      replace hL := hL0.below K
      replace h := h0.below K
      replace hs := hs0.below K
      replace hy := hy0.below K
      replace hA := hA0.below K
      replace hE := hE0.below K
      have hDn : Dn ≤ 65536 ∧ En ≤ 65536 := by have h1 := D.len; have h2 := E.len; have h3 := hrl.out; omega
      have T := Lib.hid (same_is (x := x) (y := r.2) hA hE D E (by omega) (by omega) hDn.1 hDn.2 (decide_eq_true hsb.out))
      have J_0 := J.at_ (v := .int .i64 x.1) 0 rfl
      have J_1 := J.at_ (v := .int .u32 x.2.1) 1 rfl
      have J_2 := J.at_ (v := .bool x.2.2.1) 2 rfl
      have J_3 := J.at_ (v := .slice P p1 p2) 3 rfl
      have J_4 := J.at_ (v := .slice Q q1 q2) 4 rfl
      have J_z := J.lt
      have V_0 := V.at_ (v := .int .i64 r.2.1) 0 rfl
      have V_1 := V.at_ (v := .int .u32 r.2.2.1) 1 rfl
      have V_2 := V.at_ (v := .bool r.2.2.2.1) 2 rfl
      have V_3 := V.at_ (v := .slice DA Dn Dc) 3 rfl
      have V_4 := V.at_ (v := .slice EA En Ec) 4 rfl
      have V_z := V.lt
      go_wp2_with fail
      refine T.out.mono ?_
      rintro e u8 ⟨rfl, K'⟩
      clear J_0 J_1 J_2 J_3 J_4 J_z
      clear V_0 V_1 V_2 V_3 V_4 V_z
      replace H := H.below K'
      replace G := G.below K'
      replace J := J.below K'
      replace V := V.below K'
      replace hL := hL.below K'
      replace h := h.below K'
      replace hs := hs.below K'
      replace hy := hy.below K'
      replace hA := hA.below K'
      replace hE := hE.below K'
      replace S := S.below K'
      replace D := D.below K'
      replace E := E.below K'
      replace K := Below.then_ K K'
      clear K'
      go_wp2
      go_ret2
      exact ⟨_, _, _, rfl, S, hav0, K⟩
    refine AllReadyH.cons (o := ⟨some 11, _, _, _, _, _⟩) rfl (fun K0 hK => ?_) AllReadyH.nil
    have K' := below_alloc v4 (.cells #[.int .i64 0, .int .u32 0, .bool false, .slice none 0 0, .slice none 0 0] 34)
    have V := Bk.new v4 #[.int .i64 0, .int .u32 0, .bool false, .slice none 0 0, .slice none 0 0] 34
    have KS := hHeld.1.size
    have V_b : w.heap.size ≤ v4.heap.size := by omega
    have ne_H_V : gH ≠ v4.heap.size := by have := (hHeld.2.1).lt; omega
    have ne_G_V : gG ≠ v4.heap.size := by have := (hHeld.2.2.1).lt; omega
    have ne_J_V : gJ ≠ v4.heap.size := by have := (hHeld.2.2.2.1).lt; omega
    clear KS
    go_simp
    refine hK.out _ _ ⟨Below.then_ hHeld.1 K', hHeld.2.1.below K', hHeld.2.2.1.below K', hHeld.2.2.2.1.below K', trivial⟩ (fun hHeld' => ?_)
    clear hHeld hK K0 K'
    have hHeld := hHeld'
    clear hHeld'
    generalize v4.alloc (.cells #[.int .i64 0, .int .u32 0, .bool false, .slice none 0 0, .slice none 0 0] 34) = v5 at hHeld V  ⊢
    generalize v4.heap.size = gV at V V_b ne_H_V ne_G_V ne_J_V  ⊢
    try simp only [Act.put, List.setIfInBounds_toArray, List.set_cons_zero, List.set_cons_succ]
    refine wpAnyH_ready (rs := [5]) (by kernel_rfl) (by simp) ?_
    refine AllReadyH.cons (o := ⟨some 22, _, _, _, _, _⟩) rfl (fun K0 hK => ?_) AllReadyH.nil
    go_simp
    refine ((TD _ (hL0.below hHeld.1) (h0.below hHeld.1) (hs0.below hHeld.1)).out).mono ?_
    have H_l := (hHeld.2.1).lt
    have G_l := (hHeld.2.2.1).lt
    have J_l := (hHeld.2.2.2.1).lt
    have V_l := V.lt
    rintro e v6 ⟨SA, Sn, Sc, DA, Dn, Dc, EA, En, Ec, rfl, S, hav, D, E, K'⟩
    have S_V := hav gV V_l (hs0.av_old V_b)
    have D_V := D.av V_l
    have E_V := E.av V_l
    have hav0 : ∀ g, g < w.heap.size → Av g B m → Av g SA Sn := fun g hg => hav g (Nat.lt_of_lt_of_le hg (Below.size hHeld.1))
    replace D := D.lower (Below.size hHeld.1)
    replace E := E.lower (Below.size hHeld.1)
    clear hav TD
    refine hK.out _ _ ⟨Below.then_ hHeld.1 K', hHeld.2.1.below K', hHeld.2.2.1.below K', hHeld.2.2.2.1.below K', trivial⟩ (fun hHeld' => ?_)
    replace V := V.below K'
    clear hHeld K' hK K0
    clear H_l G_l J_l V_l
    have hHeld := hHeld'
    clear hHeld'
    try simp only [Act.put, List.setIfInBounds_toArray, List.set_cons_zero, List.set_cons_succ]
    refine wpAnyH_take (i := 6) (oi := ⟨some 16, _, _, _, _, _⟩) (v := ?_) rfl (by kernel_rfl) (by kernel_rfl) (by kernel_rfl) (fun _ _ _ h => h) (Or.inl ⟨by rfl, ?_⟩) hHeld ?_
    rotate_left
    · intro ww hSw
      try dsimp only at hSw
      go_simp
      try with_reducible rfl
      try omega
    try simp only [Act.put, List.setIfInBounds_toArray, List.set_cons_zero, List.set_cons_succ]
    refine wpAnyH_take (i := 7) (oi := ⟨some 23, _, _, _, _, _⟩) (v := ?_) rfl (by kernel_rfl) (by kernel_rfl) (by kernel_rfl) (fun _ _ _ h => h) (Or.inl ⟨by rfl, ?_⟩) hHeld ?_
    rotate_left
    · intro ww hSw
      try dsimp only at hSw
      go_simp
      try with_reducible rfl
      try omega
    try simp only [Act.put, List.setIfInBounds_toArray, List.set_cons_zero, List.set_cons_succ]
    refine wpAnyH_take (i := 8) (oi := ⟨some 24, _, _, _, _, _⟩) (v := ?_) rfl (by kernel_rfl) (by kernel_rfl) (by kernel_rfl) (fun _ _ _ h => h) (Or.inl ⟨by rfl, ?_⟩) hHeld ?_
    rotate_left
    · intro ww hSw
      try dsimp only at hSw
      go_simp
      try with_reducible rfl
      try omega
    try simp only [Act.put, List.setIfInBounds_toArray, List.set_cons_zero, List.set_cons_succ]
    refine wpAnyH_take (i := 10) (oi := ⟨some 10, _, _, _, _, _⟩) (v := ?_) rfl (by kernel_rfl) (by kernel_rfl) (by kernel_rfl) (fun _ _ _ h => h) (Or.inl ⟨by rfl, ?_⟩) hHeld ?_
    rotate_left
    · intro ww hSw
      try dsimp only at hSw
      go_simp
      try with_reducible rfl
      try omega
    try simp only [Act.put, List.setIfInBounds_toArray, List.set_cons_zero, List.set_cons_succ]
    refine wpAnyH_ready (rs := [11]) (by kernel_rfl) (by simp) ?_
    refine AllReadyH.cons (o := ⟨none, _, _, _, _, _⟩) rfl (fun K0 hK => ?_) AllReadyH.nil
    rw [if_pos (by rfl)]
    refine wp_store_row 34 (.tmp 11) (.tmp 24) rfl gV _ rfl (show _ = Value.agg #[.int .i64 r.2.1, .int .u32 r.2.2.1, .bool r.2.2.2.1, .slice DA Dn Dc, .slice EA En Ec] from rfl) _ _ V an_sz rfl (by simp [Value.oneCell']) ?_
    replace V := Bk.row V #[.int .i64 r.2.1, .int .u32 r.2.2.1, .bool r.2.2.2.1, .slice DA Dn Dc, .slice EA En Ec]
    refine hK.out _ _ ⟨below_setRow hHeld.1 V_b _, hHeld.2.1.row_far ne_H_V _, hHeld.2.2.1.row_far ne_G_V _, hHeld.2.2.2.1.row_far ne_J_V _, trivial⟩ (fun hHeld' => ?_)
    replace S := S.row_av S_V #[.int .i64 r.2.1, .int .u32 r.2.2.1, .bool r.2.2.2.1, .slice DA Dn Dc, .slice EA En Ec]
    replace D := D.row_av D_V #[.int .i64 r.2.1, .int .u32 r.2.2.1, .bool r.2.2.2.1, .slice DA Dn Dc, .slice EA En Ec]
    replace E := E.row_av E_V #[.int .i64 r.2.1, .int .u32 r.2.2.1, .bool r.2.2.2.1, .slice DA Dn Dc, .slice EA En Ec]
    clear hHeld hK K0
    have hHeld := hHeld'
    clear hHeld'
    generalize v6.setRow gV #[.int .i64 r.2.1, .int .u32 r.2.2.1, .bool r.2.2.2.1, .slice DA Dn Dc, .slice EA En Ec] = v7 at hHeld  V S D E ⊢
    try simp only [Act.put]
    refine wpAnyH_done (by kernel_rfl) ?_ _
    replace K := hHeld.1
    replace H := hHeld.2.1
    replace G := hHeld.2.2.1
    replace J := hHeld.2.2.2.1
    clear hHeld
    replace hL := hL0.below K
    replace h := h0.below K
    replace hs := hs0.below K
    replace hy := hy0.below K
    replace hA := hA0.below K
    replace hE := hE0.below K
    have hDn : Dn ≤ 65536 ∧ En ≤ 65536 := by have h1 := D.len; have h2 := E.len; have h3 := hrl.out; omega
    have T := Lib.hid (same_is (x := x) (y := r.2) hA hE D E (by omega) (by omega) hDn.1 hDn.2 (decide_eq_true hsb.out))
    have J_0 := J.at_ (v := .int .i64 x.1) 0 rfl
    have J_1 := J.at_ (v := .int .u32 x.2.1) 1 rfl
    have J_2 := J.at_ (v := .bool x.2.2.1) 2 rfl
    have J_3 := J.at_ (v := .slice P p1 p2) 3 rfl
    have J_4 := J.at_ (v := .slice Q q1 q2) 4 rfl
    have J_z := J.lt
    have V_0 := V.at_ (v := .int .i64 r.2.1) 0 rfl
    have V_1 := V.at_ (v := .int .u32 r.2.2.1) 1 rfl
    have V_2 := V.at_ (v := .bool r.2.2.2.1) 2 rfl
    have V_3 := V.at_ (v := .slice DA Dn Dc) 3 rfl
    have V_4 := V.at_ (v := .slice EA En Ec) 4 rfl
    have V_z := V.lt
    go_wp2_with fail
    refine T.out.mono ?_
    rintro e u8 ⟨rfl, K'⟩
    clear J_0 J_1 J_2 J_3 J_4 J_z
    clear V_0 V_1 V_2 V_3 V_4 V_z
    replace H := H.below K'
    replace G := G.below K'
    replace J := J.below K'
    replace V := V.below K'
    replace hL := hL.below K'
    replace h := h.below K'
    replace hs := hs.below K'
    replace hy := hy.below K'
    replace hA := hA.below K'
    replace hE := hE.below K'
    replace S := S.below K'
    replace D := D.below K'
    replace E := E.below K'
    replace K := Below.then_ K K'
    clear K'
    go_wp2
    go_ret2
    exact ⟨_, _, _, rfl, S, hav0, K⟩
  refine AllReadyH.cons (o := ⟨some 11, _, _, _, _, _⟩) rfl (fun K0 hK => ?_) AllReadyH.nil
  have K' := below_alloc v3 (.cells #[.int .i64 0, .int .u32 0, .bool false, .slice none 0 0, .slice none 0 0] 34)
  have V := Bk.new v3 #[.int .i64 0, .int .u32 0, .bool false, .slice none 0 0, .slice none 0 0] 34
  have KS := hHeld.1.size
  have V_b : w.heap.size ≤ v3.heap.size := by omega
  have ne_H_V : gH ≠ v3.heap.size := by have := (hHeld.2.1).lt; omega
  have ne_G_V : gG ≠ v3.heap.size := by have := (hHeld.2.2.1).lt; omega
  have ne_J_V : gJ ≠ v3.heap.size := by have := (hHeld.2.2.2.1).lt; omega
  clear KS
  go_simp
  refine hK.out _ _ ⟨Below.then_ hHeld.1 K', hHeld.2.1.below K', hHeld.2.2.1.below K', hHeld.2.2.2.1.below K', trivial⟩ (fun hHeld' => ?_)
  clear hHeld hK K0 K'
  have hHeld := hHeld'
  clear hHeld'
  generalize v3.alloc (.cells #[.int .i64 0, .int .u32 0, .bool false, .slice none 0 0, .slice none 0 0] 34) = v4 at hHeld V  ⊢
  generalize v3.heap.size = gV at V V_b ne_H_V ne_G_V ne_J_V  ⊢
  try simp only [Act.put, List.setIfInBounds_toArray, List.set_cons_zero, List.set_cons_succ]
  refine wpAnyH_ready (rs := [4]) (by kernel_rfl) (by simp) ?_
  refine AllReadyH.cons (o := ⟨some 21, _, _, _, _, _⟩) rfl (fun K0 hK => ?_) AllReadyH.nil
  go_simp
  refine ((TS _).out).mono ?_
  rintro e v5 ⟨rfl, K'⟩
  refine hK.out _ _ ⟨Below.then_ hHeld.1 K', hHeld.2.1.below K', hHeld.2.2.1.below K', hHeld.2.2.2.1.below K', trivial⟩ (fun hHeld' => ?_)
  replace V := V.below K'
  clear hHeld K' hK K0
  have hHeld := hHeld'
  clear hHeld'
  try simp only [Act.put, List.setIfInBounds_toArray, List.set_cons_zero, List.set_cons_succ]
  refine wpAnyH_ready (rs := [5]) (by kernel_rfl) (by simp) ?_
  refine AllReadyH.cons (o := ⟨some 22, _, _, _, _, _⟩) rfl (fun K0 hK => ?_) AllReadyH.nil
  go_simp
  refine ((TD _ (hL0.below hHeld.1) (h0.below hHeld.1) (hs0.below hHeld.1)).out).mono ?_
  have H_l := (hHeld.2.1).lt
  have G_l := (hHeld.2.2.1).lt
  have J_l := (hHeld.2.2.2.1).lt
  have V_l := V.lt
  rintro e v6 ⟨SA, Sn, Sc, DA, Dn, Dc, EA, En, Ec, rfl, S, hav, D, E, K'⟩
  have S_V := hav gV V_l (hs0.av_old V_b)
  have D_V := D.av V_l
  have E_V := E.av V_l
  have hav0 : ∀ g, g < w.heap.size → Av g B m → Av g SA Sn := fun g hg => hav g (Nat.lt_of_lt_of_le hg (Below.size hHeld.1))
  replace D := D.lower (Below.size hHeld.1)
  replace E := E.lower (Below.size hHeld.1)
  clear hav TD
  refine hK.out _ _ ⟨Below.then_ hHeld.1 K', hHeld.2.1.below K', hHeld.2.2.1.below K', hHeld.2.2.2.1.below K', trivial⟩ (fun hHeld' => ?_)
  replace V := V.below K'
  clear hHeld K' hK K0
  clear H_l G_l J_l V_l
  have hHeld := hHeld'
  clear hHeld'
  try simp only [Act.put, List.setIfInBounds_toArray, List.set_cons_zero, List.set_cons_succ]
  refine wpAnyH_take (i := 6) (oi := ⟨some 16, _, _, _, _, _⟩) (v := ?_) rfl (by kernel_rfl) (by kernel_rfl) (by kernel_rfl) (fun _ _ _ h => h) (Or.inl ⟨by rfl, ?_⟩) hHeld ?_
  rotate_left
  · intro ww hSw
    try dsimp only at hSw
    go_simp
    try with_reducible rfl
    try omega
  try simp only [Act.put, List.setIfInBounds_toArray, List.set_cons_zero, List.set_cons_succ]
  refine wpAnyH_take (i := 7) (oi := ⟨some 23, _, _, _, _, _⟩) (v := ?_) rfl (by kernel_rfl) (by kernel_rfl) (by kernel_rfl) (fun _ _ _ h => h) (Or.inl ⟨by rfl, ?_⟩) hHeld ?_
  rotate_left
  · intro ww hSw
    try dsimp only at hSw
    go_simp
    try with_reducible rfl
    try omega
  try simp only [Act.put, List.setIfInBounds_toArray, List.set_cons_zero, List.set_cons_succ]
  refine wpAnyH_take (i := 8) (oi := ⟨some 24, _, _, _, _, _⟩) (v := ?_) rfl (by kernel_rfl) (by kernel_rfl) (by kernel_rfl) (fun _ _ _ h => h) (Or.inl ⟨by rfl, ?_⟩) hHeld ?_
  rotate_left
  · intro ww hSw
    try dsimp only at hSw
    go_simp
    try with_reducible rfl
    try omega
  try simp only [Act.put, List.setIfInBounds_toArray, List.set_cons_zero, List.set_cons_succ]
  refine wpAnyH_take (i := 10) (oi := ⟨some 10, _, _, _, _, _⟩) (v := ?_) rfl (by kernel_rfl) (by kernel_rfl) (by kernel_rfl) (fun _ _ _ h => h) (Or.inl ⟨by rfl, ?_⟩) hHeld ?_
  rotate_left
  · intro ww hSw
    try dsimp only at hSw
    go_simp
    try with_reducible rfl
    try omega
  try simp only [Act.put, List.setIfInBounds_toArray, List.set_cons_zero, List.set_cons_succ]
  refine wpAnyH_ready (rs := [11]) (by kernel_rfl) (by simp) ?_
  refine AllReadyH.cons (o := ⟨none, _, _, _, _, _⟩) rfl (fun K0 hK => ?_) AllReadyH.nil
  rw [if_pos (by rfl)]
  refine wp_store_row 34 (.tmp 11) (.tmp 24) rfl gV _ rfl (show _ = Value.agg #[.int .i64 r.2.1, .int .u32 r.2.2.1, .bool r.2.2.2.1, .slice DA Dn Dc, .slice EA En Ec] from rfl) _ _ V an_sz rfl (by simp [Value.oneCell']) ?_
  replace V := Bk.row V #[.int .i64 r.2.1, .int .u32 r.2.2.1, .bool r.2.2.2.1, .slice DA Dn Dc, .slice EA En Ec]
  refine hK.out _ _ ⟨below_setRow hHeld.1 V_b _, hHeld.2.1.row_far ne_H_V _, hHeld.2.2.1.row_far ne_G_V _, hHeld.2.2.2.1.row_far ne_J_V _, trivial⟩ (fun hHeld' => ?_)
  replace S := S.row_av S_V #[.int .i64 r.2.1, .int .u32 r.2.2.1, .bool r.2.2.2.1, .slice DA Dn Dc, .slice EA En Ec]
  replace D := D.row_av D_V #[.int .i64 r.2.1, .int .u32 r.2.2.1, .bool r.2.2.2.1, .slice DA Dn Dc, .slice EA En Ec]
  replace E := E.row_av E_V #[.int .i64 r.2.1, .int .u32 r.2.2.1, .bool r.2.2.2.1, .slice DA Dn Dc, .slice EA En Ec]
  clear hHeld hK K0
  have hHeld := hHeld'
  clear hHeld'
  generalize v6.setRow gV #[.int .i64 r.2.1, .int .u32 r.2.2.1, .bool r.2.2.2.1, .slice DA Dn Dc, .slice EA En Ec] = v7 at hHeld  V S D E ⊢
  try simp only [Act.put]
  refine wpAnyH_done (by kernel_rfl) ?_ _
  replace K := hHeld.1
  replace H := hHeld.2.1
  replace G := hHeld.2.2.1
  replace J := hHeld.2.2.2.1
  clear hHeld
  replace hL := hL0.below K
  replace h := h0.below K
  replace hs := hs0.below K
  replace hy := hy0.below K
  replace hA := hA0.below K
  replace hE := hE0.below K
  have hDn : Dn ≤ 65536 ∧ En ≤ 65536 := by have h1 := D.len; have h2 := E.len; have h3 := hrl.out; omega
  have T := Lib.hid (same_is (x := x) (y := r.2) hA hE D E (by omega) (by omega) hDn.1 hDn.2 (decide_eq_true hsb.out))
  have J_0 := J.at_ (v := .int .i64 x.1) 0 rfl
  have J_1 := J.at_ (v := .int .u32 x.2.1) 1 rfl
  have J_2 := J.at_ (v := .bool x.2.2.1) 2 rfl
  have J_3 := J.at_ (v := .slice P p1 p2) 3 rfl
  have J_4 := J.at_ (v := .slice Q q1 q2) 4 rfl
  have J_z := J.lt
  have V_0 := V.at_ (v := .int .i64 r.2.1) 0 rfl
  have V_1 := V.at_ (v := .int .u32 r.2.2.1) 1 rfl
  have V_2 := V.at_ (v := .bool r.2.2.2.1) 2 rfl
  have V_3 := V.at_ (v := .slice DA Dn Dc) 3 rfl
  have V_4 := V.at_ (v := .slice EA En Ec) 4 rfl
  have V_z := V.lt
  go_wp2_with fail
  refine T.out.mono ?_
  rintro e u8 ⟨rfl, K'⟩
  clear J_0 J_1 J_2 J_3 J_4 J_z
  clear V_0 V_1 V_2 V_3 V_4 V_z
  replace H := H.below K'
  replace G := G.below K'
  replace J := J.below K'
  replace V := V.below K'
  replace hL := hL.below K'
  replace h := h.below K'
  replace hs := hs.below K'
  replace hy := hy.below K'
  replace hA := hA.below K'
  replace hE := hE.below K'
  replace S := S.below K'
  replace D := D.below K'
  replace E := E.below K'
  replace K := Below.then_ K K'
  clear K'
  go_wp2
  go_ret2
  exact ⟨_, _, _, rfl, S, hav0, K⟩
set_option maxRecDepth 100000 in
set_option maxHeartbeats 4000000 in
theorem legal_ex_no (hL0 : Laid w) (ha : a < 4294967296) (hM : Much a p M) (h0 : IS .i64 lo w A n c zs) (hn : n ≤ 65536) (hs0 : IS .i64 lo2 w B m d xs) (hm : m ≤ 60000) (hx : mayR M zs 0 xs = true) (hX : X < 4294967296) (hy0 : IS .u32 lo3 w C q f ys) (hq : q ≤ 60000) (hw : W32 ys) (hA0 : IS .u32 lo4 w P p1 p2 x.2.2.2.1) (hE0 : IS .i64 lo5 w Q q1 q2 x.2.2.2.2) (b1 : p1 ≤ 60000) (b2 : q1 ≤ 60000) (hp : putO k x = false) (hk : k = 1) (he : x.1 = 0) (hA1 : 0 ≤ x.2.1 ∧ x.2.1 < 4294967296) {r : List Int × An} (hdo : stS a M zs xs k X ys x = r) (hsm : x ≠ r.2) :
    Calls Tryd.prog 13 #[.agg #[.int .u32 (a : Int), .int .i64 p, .slice A n c, .int .i64 sh, .int .i64 wo, .int .i64 qu, .int .i64 tr], .slice B m d, .agg #[.int .i64 k, .int .u32 (X : Int), .slice C q f], .agg #[.int .i64 x.1, .int .u32 x.2.1, .bool x.2.2.1, .slice P p1 p2, .slice Q q1 q2]] w (RetLB B m (xs, false) w) := by
  replace hw := Lib.hid hw
  have hsb := Lib.hid hsm
  have hrl : Hid (r.2.2.2.2.1.length ≤ m ∧ r.2.2.2.2.2.length ≤ q) := Lib.hid (by rw [← hdo, ← hs0.len, ← hy0.len]; exact stS_len k X ys x)
  replace hx := Lib.hid hx
  obtain ⟨Y, hY⟩ : ∃ Y : Nat, x.2.1 = (Y : Int) := ⟨x.2.1.toNat, by omega⟩
  have hY2 : Y < 4294967296 := by omega
  have hYn : x.2.1.toNat = Y := by omega
  have hd2 : someS a M zs xs 2 Y [] = r := by rw [← hdo]; unfold stS; rw [if_pos ⟨hk, he⟩, hYn]
  have TS := fun w => Lib.hid (set_grant (w := w) (X := X) (C := C) (q := q) (f := f) (P := P) (p1 := p1) (p2 := p2) (Q := Q) (q1 := q1) (q2 := q2) hk he)
  have TD := fun w (hL0 : Laid w) (h0 : IS .i64 lo w A n c zs) (hs0 : IS .i64 lo2 w B m d xs) => Lib.hid (show Calls _ _ #[.agg #[.int .u32 (a : Int), .int .i64 p, .slice A n c, .int .i64 sh, .int .i64 wo, .int .i64 qu, .int .i64 tr], .slice B m d, .agg #[.int .i64 2, .int .u32 x.2.1, .slice none 0 0]] w (RetSA B m r.1 r.2 w) from by rw [← hd2, hY]; exact some_any (k := 2) (X := Y) (sh := sh) (wo := wo) (qu := qu) (tr := tr) hL0 ha hM h0 hn hs0 hm hx.out hY2 (IS.none_ .u32 0 _) (by omega) (fun y hy => by cases hy))
  clear hk he hY hYn hd2 hdo hA1
  clear hsm
  have hL := hL0
  have h := h0
  have hs := hs0
  have hy := hy0
  have hA := hA0
  have hE := hE0
  have K := Below.refl w.heap.size w
  go_enter Tryd.func13, Tryd.ntmps13
  go_upto_region 1 with (fail)
  have KS := K.size
  replace hL := hL.below (below_alloc _ (.cells #[.int .u32 (a : Int), .int .i64 p, .slice A n c, .int .i64 sh, .int .i64 wo, .int .i64 qu, .int .i64 tr] 27))
  replace h := h.below (below_alloc _ (.cells #[.int .u32 (a : Int), .int .i64 p, .slice A n c, .int .i64 sh, .int .i64 wo, .int .i64 qu, .int .i64 tr] 27))
  replace hs := hs.below (below_alloc _ (.cells #[.int .u32 (a : Int), .int .i64 p, .slice A n c, .int .i64 sh, .int .i64 wo, .int .i64 qu, .int .i64 tr] 27))
  replace hy := hy.below (below_alloc _ (.cells #[.int .u32 (a : Int), .int .i64 p, .slice A n c, .int .i64 sh, .int .i64 wo, .int .i64 qu, .int .i64 tr] 27))
  replace hA := hA.below (below_alloc _ (.cells #[.int .u32 (a : Int), .int .i64 p, .slice A n c, .int .i64 sh, .int .i64 wo, .int .i64 qu, .int .i64 tr] 27))
  replace hE := hE.below (below_alloc _ (.cells #[.int .u32 (a : Int), .int .i64 p, .slice A n c, .int .i64 sh, .int .i64 wo, .int .i64 qu, .int .i64 tr] 27))
  replace K := Below.then_ K (below_alloc _ (.cells #[.int .u32 (a : Int), .int .i64 p, .slice A n c, .int .i64 sh, .int .i64 wo, .int .i64 qu, .int .i64 tr] 27))
  have H := Bk.new (w) #[.int .u32 (a : Int), .int .i64 p, .slice A n c, .int .i64 sh, .int .i64 wo, .int .i64 qu, .int .i64 tr] 27
  replace H := H.alloc (.cells #[.int .i64 k, .int .u32 (X : Int), .slice C q f] 30)
  replace hL := hL.below (below_alloc _ (.cells #[.int .i64 k, .int .u32 (X : Int), .slice C q f] 30))
  replace h := h.below (below_alloc _ (.cells #[.int .i64 k, .int .u32 (X : Int), .slice C q f] 30))
  replace hs := hs.below (below_alloc _ (.cells #[.int .i64 k, .int .u32 (X : Int), .slice C q f] 30))
  replace hy := hy.below (below_alloc _ (.cells #[.int .i64 k, .int .u32 (X : Int), .slice C q f] 30))
  replace hA := hA.below (below_alloc _ (.cells #[.int .i64 k, .int .u32 (X : Int), .slice C q f] 30))
  replace hE := hE.below (below_alloc _ (.cells #[.int .i64 k, .int .u32 (X : Int), .slice C q f] 30))
  replace K := Below.then_ K (below_alloc _ (.cells #[.int .i64 k, .int .u32 (X : Int), .slice C q f] 30))
  have G := Bk.new ((w).alloc (.cells #[.int .u32 (a : Int), .int .i64 p, .slice A n c, .int .i64 sh, .int .i64 wo, .int .i64 qu, .int .i64 tr] 27)) #[.int .i64 k, .int .u32 (X : Int), .slice C q f] 30
  replace H := H.alloc (.cells #[.int .i64 x.1, .int .u32 x.2.1, .bool x.2.2.1, .slice P p1 p2, .slice Q q1 q2] 34)
  replace G := G.alloc (.cells #[.int .i64 x.1, .int .u32 x.2.1, .bool x.2.2.1, .slice P p1 p2, .slice Q q1 q2] 34)
  replace hL := hL.below (below_alloc _ (.cells #[.int .i64 x.1, .int .u32 x.2.1, .bool x.2.2.1, .slice P p1 p2, .slice Q q1 q2] 34))
  replace h := h.below (below_alloc _ (.cells #[.int .i64 x.1, .int .u32 x.2.1, .bool x.2.2.1, .slice P p1 p2, .slice Q q1 q2] 34))
  replace hs := hs.below (below_alloc _ (.cells #[.int .i64 x.1, .int .u32 x.2.1, .bool x.2.2.1, .slice P p1 p2, .slice Q q1 q2] 34))
  replace hy := hy.below (below_alloc _ (.cells #[.int .i64 x.1, .int .u32 x.2.1, .bool x.2.2.1, .slice P p1 p2, .slice Q q1 q2] 34))
  replace hA := hA.below (below_alloc _ (.cells #[.int .i64 x.1, .int .u32 x.2.1, .bool x.2.2.1, .slice P p1 p2, .slice Q q1 q2] 34))
  replace hE := hE.below (below_alloc _ (.cells #[.int .i64 x.1, .int .u32 x.2.1, .bool x.2.2.1, .slice P p1 p2, .slice Q q1 q2] 34))
  replace K := Below.then_ K (below_alloc _ (.cells #[.int .i64 x.1, .int .u32 x.2.1, .bool x.2.2.1, .slice P p1 p2, .slice Q q1 q2] 34))
  have J := Bk.new (((w).alloc (.cells #[.int .u32 (a : Int), .int .i64 p, .slice A n c, .int .i64 sh, .int .i64 wo, .int .i64 qu, .int .i64 tr] 27)).alloc (.cells #[.int .i64 k, .int .u32 (X : Int), .slice C q f] 30)) #[.int .i64 x.1, .int .u32 x.2.1, .bool x.2.2.1, .slice P p1 p2, .slice Q q1 q2] 34
  try simp only [World.size_alloc] at H G J
  generalize (((w).alloc (.cells #[.int .u32 (a : Int), .int .i64 p, .slice A n c, .int .i64 sh, .int .i64 wo, .int .i64 qu, .int .i64 tr] 27)).alloc (.cells #[.int .i64 k, .int .u32 (X : Int), .slice C q f] 30)).alloc (.cells #[.int .i64 x.1, .int .u32 x.2.1, .bool x.2.2.1, .slice P p1 p2, .slice Q q1 q2] 34) = w1 at H G J hL h hs hy hA hE K ⊢
  generalize hgJ : w.heap.size + 1 + 1 = gJ at H G J ⊢
  generalize hgG : w.heap.size + 1 = gG at H G J ⊢
  generalize hgH : w.heap.size = gH at H G J ⊢
  have H_b : w.heap.size ≤ gH := by omega
  have G_b : w.heap.size ≤ gG := by omega
  have J_b : w.heap.size ≤ gJ := by omega
  have ne_H_G : gH ≠ gG := by omega
  have ne_H_J : gH ≠ gJ := by omega
  have ne_G_J : gG ≠ gJ := by omega
  clear KS hgH hgG hgJ 
  have T := put_any (k := k) (X := X) (C := C) (q := q) (f := f) hA hE b1 b2
  rw [hp] at T
  replace T := Lib.hid T
  have G_0 := G.at_ (v := .int .i64 k) 0 rfl
  have G_1 := G.at_ (v := .int .u32 (X : Int)) 1 rfl
  have G_2 := G.at_ (v := .slice C q f) 2 rfl
  have G_z := G.lt
  have J_0 := J.at_ (v := .int .i64 x.1) 0 rfl
  have J_1 := J.at_ (v := .int .u32 x.2.1) 1 rfl
  have J_2 := J.at_ (v := .bool x.2.2.1) 2 rfl
  have J_3 := J.at_ (v := .slice P p1 p2) 3 rfl
  have J_4 := J.at_ (v := .slice Q q1 q2) 4 rfl
  have J_z := J.lt
  go_wp2_with fail
  refine (T.out).mono ?_
  rintro e w2 ⟨rfl, K'⟩
  clear G_0 G_1 G_2 G_z
  clear J_0 J_1 J_2 J_3 J_4 J_z
  replace H := H.below K'
  replace G := G.below K'
  replace J := J.below K'
  replace hL := hL.below K'
  replace h := h.below K'
  replace hs := hs.below K'
  replace hy := hy.below K'
  replace hA := hA.below K'
  replace hE := hE.below K'
  replace K := Below.then_ K K'
  clear K'
  clear T
  go_wp2
  refine wp_region_held_drew (S := fun w' => Below w.heap.size w w' ∧ Bk w' gH 27 #[.int .u32 (a : Int), .int .i64 p, .slice A n c, .int .i64 sh, .int .i64 wo, .int .i64 qu, .int .i64 tr] ∧ Bk w' gG 30 #[.int .i64 k, .int .u32 (X : Int), .slice C q f] ∧ Bk w' gJ 34 #[.int .i64 x.1, .int .u32 x.2.1, .bool x.2.2.1, .slice P p1 p2, .slice Q q1 q2] ∧ True) (by kernel_rfl) ⟨K.drew, H.below ((Below.refl _ _).drew), G.below ((Below.refl _ _).drew), J.below ((Below.refl _ _).drew), trivial⟩ (fun hHeld => ?_)
  generalize w2.drew = v3 at hHeld  ⊢
  refine wpAnyH_take (i := 0) (oi := ⟨some 17, _, _, _, _, _⟩) (v := ?_) rfl (by kernel_rfl) (by kernel_rfl) (by kernel_rfl) (fun _ _ _ h => h) (Or.inl ⟨by rfl, ?_⟩) hHeld ?_
  rotate_left
  · intro ww hSw
    try dsimp only at hSw
    have H_0 := (hSw.2.1).at_ (v := .int .u32 (a : Int)) 0 rfl
    have H_1 := (hSw.2.1).at_ (v := .int .i64 p) 1 rfl
    have H_2 := (hSw.2.1).at_ (v := .slice A n c) 2 rfl
    have H_3 := (hSw.2.1).at_ (v := .int .i64 sh) 3 rfl
    have H_4 := (hSw.2.1).at_ (v := .int .i64 wo) 4 rfl
    have H_5 := (hSw.2.1).at_ (v := .int .i64 qu) 5 rfl
    have H_6 := (hSw.2.1).at_ (v := .int .i64 tr) 6 rfl
    have H_z := (hSw.2.1).lt
    have G_0 := (hSw.2.2.1).at_ (v := .int .i64 k) 0 rfl
    have G_1 := (hSw.2.2.1).at_ (v := .int .u32 (X : Int)) 1 rfl
    have G_2 := (hSw.2.2.1).at_ (v := .slice C q f) 2 rfl
    have G_z := (hSw.2.2.1).lt
    have J_0 := (hSw.2.2.2.1).at_ (v := .int .i64 x.1) 0 rfl
    have J_1 := (hSw.2.2.2.1).at_ (v := .int .u32 x.2.1) 1 rfl
    have J_2 := (hSw.2.2.2.1).at_ (v := .bool x.2.2.1) 2 rfl
    have J_3 := (hSw.2.2.2.1).at_ (v := .slice P p1 p2) 3 rfl
    have J_4 := (hSw.2.2.2.1).at_ (v := .slice Q q1 q2) 4 rfl
    have J_z := (hSw.2.2.2.1).lt
    go_simp
    try with_reducible rfl
    try omega
  try simp only [Act.put, List.setIfInBounds_toArray, List.set_cons_zero, List.set_cons_succ]
  refine wpAnyH_take (i := 1) (oi := ⟨some 18, _, _, _, _, _⟩) (v := ?_) rfl (by kernel_rfl) (by kernel_rfl) (by kernel_rfl) (fun _ _ _ h => h) (Or.inl ⟨by rfl, ?_⟩) hHeld ?_
  rotate_left
  · intro ww hSw
    try dsimp only at hSw
    go_simp
    try with_reducible rfl
    try omega
  try simp only [Act.put, List.setIfInBounds_toArray, List.set_cons_zero, List.set_cons_succ]
  refine wpAnyH_take (i := 2) (oi := ⟨some 19, _, _, _, _, _⟩) (v := ?_) rfl (by kernel_rfl) (by kernel_rfl) (by kernel_rfl) (fun _ _ _ h => h) (Or.inl ⟨by rfl, ?_⟩) hHeld ?_
  rotate_left
  · intro ww hSw
    try dsimp only at hSw
    have H_0 := (hSw.2.1).at_ (v := .int .u32 (a : Int)) 0 rfl
    have H_1 := (hSw.2.1).at_ (v := .int .i64 p) 1 rfl
    have H_2 := (hSw.2.1).at_ (v := .slice A n c) 2 rfl
    have H_3 := (hSw.2.1).at_ (v := .int .i64 sh) 3 rfl
    have H_4 := (hSw.2.1).at_ (v := .int .i64 wo) 4 rfl
    have H_5 := (hSw.2.1).at_ (v := .int .i64 qu) 5 rfl
    have H_6 := (hSw.2.1).at_ (v := .int .i64 tr) 6 rfl
    have H_z := (hSw.2.1).lt
    have G_0 := (hSw.2.2.1).at_ (v := .int .i64 k) 0 rfl
    have G_1 := (hSw.2.2.1).at_ (v := .int .u32 (X : Int)) 1 rfl
    have G_2 := (hSw.2.2.1).at_ (v := .slice C q f) 2 rfl
    have G_z := (hSw.2.2.1).lt
    have J_0 := (hSw.2.2.2.1).at_ (v := .int .i64 x.1) 0 rfl
    have J_1 := (hSw.2.2.2.1).at_ (v := .int .u32 x.2.1) 1 rfl
    have J_2 := (hSw.2.2.2.1).at_ (v := .bool x.2.2.1) 2 rfl
    have J_3 := (hSw.2.2.2.1).at_ (v := .slice P p1 p2) 3 rfl
    have J_4 := (hSw.2.2.2.1).at_ (v := .slice Q q1 q2) 4 rfl
    have J_z := (hSw.2.2.2.1).lt
    go_simp
    try with_reducible rfl
    try omega
  try simp only [Act.put, List.setIfInBounds_toArray, List.set_cons_zero, List.set_cons_succ]
  refine wpAnyH_take (i := 3) (oi := ⟨some 20, _, _, _, _, _⟩) (v := ?_) rfl (by kernel_rfl) (by kernel_rfl) (by kernel_rfl) (fun _ _ _ h => h) (Or.inl ⟨by rfl, ?_⟩) hHeld ?_
  rotate_left
  · intro ww hSw
    try dsimp only at hSw
    have H_0 := (hSw.2.1).at_ (v := .int .u32 (a : Int)) 0 rfl
    have H_1 := (hSw.2.1).at_ (v := .int .i64 p) 1 rfl
    have H_2 := (hSw.2.1).at_ (v := .slice A n c) 2 rfl
    have H_3 := (hSw.2.1).at_ (v := .int .i64 sh) 3 rfl
    have H_4 := (hSw.2.1).at_ (v := .int .i64 wo) 4 rfl
    have H_5 := (hSw.2.1).at_ (v := .int .i64 qu) 5 rfl
    have H_6 := (hSw.2.1).at_ (v := .int .i64 tr) 6 rfl
    have H_z := (hSw.2.1).lt
    have G_0 := (hSw.2.2.1).at_ (v := .int .i64 k) 0 rfl
    have G_1 := (hSw.2.2.1).at_ (v := .int .u32 (X : Int)) 1 rfl
    have G_2 := (hSw.2.2.1).at_ (v := .slice C q f) 2 rfl
    have G_z := (hSw.2.2.1).lt
    have J_0 := (hSw.2.2.2.1).at_ (v := .int .i64 x.1) 0 rfl
    have J_1 := (hSw.2.2.2.1).at_ (v := .int .u32 x.2.1) 1 rfl
    have J_2 := (hSw.2.2.2.1).at_ (v := .bool x.2.2.1) 2 rfl
    have J_3 := (hSw.2.2.2.1).at_ (v := .slice P p1 p2) 3 rfl
    have J_4 := (hSw.2.2.2.1).at_ (v := .slice Q q1 q2) 4 rfl
    have J_z := (hSw.2.2.2.1).lt
    go_simp
    try with_reducible rfl
    try omega
  try simp only [Act.put, List.setIfInBounds_toArray, List.set_cons_zero, List.set_cons_succ]
  refine wpAnyH_ready (rs := [4, 9]) (by kernel_rfl) (by simp) ?_
  refine AllReadyH.cons (o := ⟨some 21, _, _, _, _, _⟩) rfl (fun K0 hK => ?_) ?_
  · go_simp
    refine ((TS _).out).mono ?_
    rintro e v4 ⟨rfl, K'⟩
    refine hK.out _ _ ⟨Below.then_ hHeld.1 K', hHeld.2.1.below K', hHeld.2.2.1.below K', hHeld.2.2.2.1.below K', trivial⟩ (fun hHeld' => ?_)
    clear hHeld K' hK K0
    have hHeld := hHeld'
    clear hHeld'
    try simp only [Act.put, List.setIfInBounds_toArray, List.set_cons_zero, List.set_cons_succ]
    refine wpAnyH_ready (rs := [5, 9]) (by kernel_rfl) (by simp) ?_
    refine AllReadyH.cons (o := ⟨some 22, _, _, _, _, _⟩) rfl (fun K0 hK => ?_) ?_
    · go_simp
      refine ((TD _ (hL0.below hHeld.1) (h0.below hHeld.1) (hs0.below hHeld.1)).out).mono ?_
      have H_l := (hHeld.2.1).lt
      have G_l := (hHeld.2.2.1).lt
      have J_l := (hHeld.2.2.2.1).lt
      rintro e v5 ⟨SA, Sn, Sc, DA, Dn, Dc, EA, En, Ec, rfl, S, hav, D, E, K'⟩
      have hav0 : ∀ g, g < w.heap.size → Av g B m → Av g SA Sn := fun g hg => hav g (Nat.lt_of_lt_of_le hg (Below.size hHeld.1))
      replace D := D.lower (Below.size hHeld.1)
      replace E := E.lower (Below.size hHeld.1)
      clear hav TD
      refine hK.out _ _ ⟨Below.then_ hHeld.1 K', hHeld.2.1.below K', hHeld.2.2.1.below K', hHeld.2.2.2.1.below K', trivial⟩ (fun hHeld' => ?_)
      clear hHeld K' hK K0
      clear H_l G_l J_l
      have hHeld := hHeld'
      clear hHeld'
      try simp only [Act.put, List.setIfInBounds_toArray, List.set_cons_zero, List.set_cons_succ]
      refine wpAnyH_take (i := 6) (oi := ⟨some 16, _, _, _, _, _⟩) (v := ?_) rfl (by kernel_rfl) (by kernel_rfl) (by kernel_rfl) (fun _ _ _ h => h) (Or.inl ⟨by rfl, ?_⟩) hHeld ?_
      rotate_left
      · intro ww hSw
        try dsimp only at hSw
        go_simp
        try with_reducible rfl
        try omega
      try simp only [Act.put, List.setIfInBounds_toArray, List.set_cons_zero, List.set_cons_succ]
      refine wpAnyH_take (i := 7) (oi := ⟨some 23, _, _, _, _, _⟩) (v := ?_) rfl (by kernel_rfl) (by kernel_rfl) (by kernel_rfl) (fun _ _ _ h => h) (Or.inl ⟨by rfl, ?_⟩) hHeld ?_
      rotate_left
      · intro ww hSw
        try dsimp only at hSw
        go_simp
        try with_reducible rfl
        try omega
      try simp only [Act.put, List.setIfInBounds_toArray, List.set_cons_zero, List.set_cons_succ]
      refine wpAnyH_take (i := 8) (oi := ⟨some 24, _, _, _, _, _⟩) (v := ?_) rfl (by kernel_rfl) (by kernel_rfl) (by kernel_rfl) (fun _ _ _ h => h) (Or.inl ⟨by rfl, ?_⟩) hHeld ?_
      rotate_left
      · intro ww hSw
        try dsimp only at hSw
        go_simp
        try with_reducible rfl
        try omega
      try simp only [Act.put, List.setIfInBounds_toArray, List.set_cons_zero, List.set_cons_succ]
      refine wpAnyH_ready (rs := [9]) (by kernel_rfl) (by simp) ?_
      refine AllReadyH.cons (o := ⟨some 11, _, _, _, _, _⟩) rfl (fun K0 hK => ?_) AllReadyH.nil
      have K' := below_alloc v5 (.cells #[.int .i64 0, .int .u32 0, .bool false, .slice none 0 0, .slice none 0 0] 34)
      have V := Bk.new v5 #[.int .i64 0, .int .u32 0, .bool false, .slice none 0 0, .slice none 0 0] 34
      have KS := hHeld.1.size
      have V_b : w.heap.size ≤ v5.heap.size := by omega
      have ne_H_V : gH ≠ v5.heap.size := by have := (hHeld.2.1).lt; omega
      have ne_G_V : gG ≠ v5.heap.size := by have := (hHeld.2.2.1).lt; omega
      have ne_J_V : gJ ≠ v5.heap.size := by have := (hHeld.2.2.2.1).lt; omega
      have S_V := S.av_old (Nat.le_refl v5.heap.size)
      have D_V := D.av_old (Nat.le_refl v5.heap.size)
      have E_V := E.av_old (Nat.le_refl v5.heap.size)
      clear KS
      go_simp
      refine hK.out _ _ ⟨Below.then_ hHeld.1 K', hHeld.2.1.below K', hHeld.2.2.1.below K', hHeld.2.2.2.1.below K', trivial⟩ (fun hHeld' => ?_)
      replace S := S.below K'
      replace D := D.below K'
      replace E := E.below K'
      clear hHeld hK K0 K'
      have hHeld := hHeld'
      clear hHeld'
      generalize v5.alloc (.cells #[.int .i64 0, .int .u32 0, .bool false, .slice none 0 0, .slice none 0 0] 34) = v6 at hHeld V S D E ⊢
      generalize v5.heap.size = gV at V V_b ne_H_V ne_G_V ne_J_V S_V D_V E_V ⊢
      try simp only [Act.put, List.setIfInBounds_toArray, List.set_cons_zero, List.set_cons_succ]
      refine wpAnyH_take (i := 10) (oi := ⟨some 10, _, _, _, _, _⟩) (v := ?_) rfl (by kernel_rfl) (by kernel_rfl) (by kernel_rfl) (fun _ _ _ h => h) (Or.inl ⟨by rfl, ?_⟩) hHeld ?_
      rotate_left
      · intro ww hSw
        try dsimp only at hSw
        go_simp
        try with_reducible rfl
        try omega
      try simp only [Act.put, List.setIfInBounds_toArray, List.set_cons_zero, List.set_cons_succ]
      refine wpAnyH_ready (rs := [11]) (by kernel_rfl) (by simp) ?_
      refine AllReadyH.cons (o := ⟨none, _, _, _, _, _⟩) rfl (fun K0 hK => ?_) AllReadyH.nil
      rw [if_pos (by rfl)]
      refine wp_store_row 34 (.tmp 11) (.tmp 24) rfl gV _ rfl (show _ = Value.agg #[.int .i64 r.2.1, .int .u32 r.2.2.1, .bool r.2.2.2.1, .slice DA Dn Dc, .slice EA En Ec] from rfl) _ _ V an_sz rfl (by simp [Value.oneCell']) ?_
      replace V := Bk.row V #[.int .i64 r.2.1, .int .u32 r.2.2.1, .bool r.2.2.2.1, .slice DA Dn Dc, .slice EA En Ec]
      refine hK.out _ _ ⟨below_setRow hHeld.1 V_b _, hHeld.2.1.row_far ne_H_V _, hHeld.2.2.1.row_far ne_G_V _, hHeld.2.2.2.1.row_far ne_J_V _, trivial⟩ (fun hHeld' => ?_)
      replace S := S.row_av S_V #[.int .i64 r.2.1, .int .u32 r.2.2.1, .bool r.2.2.2.1, .slice DA Dn Dc, .slice EA En Ec]
      replace D := D.row_av D_V #[.int .i64 r.2.1, .int .u32 r.2.2.1, .bool r.2.2.2.1, .slice DA Dn Dc, .slice EA En Ec]
      replace E := E.row_av E_V #[.int .i64 r.2.1, .int .u32 r.2.2.1, .bool r.2.2.2.1, .slice DA Dn Dc, .slice EA En Ec]
      clear hHeld hK K0
      have hHeld := hHeld'
      clear hHeld'
      generalize v6.setRow gV #[.int .i64 r.2.1, .int .u32 r.2.2.1, .bool r.2.2.2.1, .slice DA Dn Dc, .slice EA En Ec] = v7 at hHeld  S D E V ⊢
      try simp only [Act.put]
      refine wpAnyH_done (by kernel_rfl) ?_ _
      replace K := hHeld.1
      replace H := hHeld.2.1
      replace G := hHeld.2.2.1
      replace J := hHeld.2.2.2.1
      clear hHeld
      replace hL := hL0.below K
      replace h := h0.below K
      replace hs := hs0.below K
      replace hy := hy0.below K
      replace hA := hA0.below K
      replace hE := hE0.below K
      have hDn : Dn ≤ 65536 ∧ En ≤ 65536 := by have h1 := D.len; have h2 := E.len; have h3 := hrl.out; omega
      have T := Lib.hid (same_is (x := x) (y := r.2) hA hE D E (by omega) (by omega) hDn.1 hDn.2 (decide_eq_false hsb.out))
      have J_0 := J.at_ (v := .int .i64 x.1) 0 rfl
      have J_1 := J.at_ (v := .int .u32 x.2.1) 1 rfl
      have J_2 := J.at_ (v := .bool x.2.2.1) 2 rfl
      have J_3 := J.at_ (v := .slice P p1 p2) 3 rfl
      have J_4 := J.at_ (v := .slice Q q1 q2) 4 rfl
      have J_z := J.lt
      have V_0 := V.at_ (v := .int .i64 r.2.1) 0 rfl
      have V_1 := V.at_ (v := .int .u32 r.2.2.1) 1 rfl
      have V_2 := V.at_ (v := .bool r.2.2.2.1) 2 rfl
      have V_3 := V.at_ (v := .slice DA Dn Dc) 3 rfl
      have V_4 := V.at_ (v := .slice EA En Ec) 4 rfl
      have V_z := V.lt
      go_wp2_with fail
      refine T.out.mono ?_
      rintro e u8 ⟨rfl, K'⟩
      clear J_0 J_1 J_2 J_3 J_4 J_z
      clear V_0 V_1 V_2 V_3 V_4 V_z
      replace H := H.below K'
      replace G := G.below K'
      replace J := J.below K'
      replace V := V.below K'
      replace hL := hL.below K'
      replace h := h.below K'
      replace hs := hs.below K'
      replace hy := hy.below K'
      replace hA := hA.below K'
      replace hE := hE.below K'
      replace S := S.below K'
      replace D := D.below K'
      replace E := E.below K'
      replace K := Below.then_ K K'
      clear K'
      go_wp2
      go_ret2
      exact ⟨_, _, _, rfl, hs.lower (Nat.zero_le _), (fun _ _ h => h), K⟩
    refine AllReadyH.cons (o := ⟨some 11, _, _, _, _, _⟩) rfl (fun K0 hK => ?_) AllReadyH.nil
    have K' := below_alloc v4 (.cells #[.int .i64 0, .int .u32 0, .bool false, .slice none 0 0, .slice none 0 0] 34)
    have V := Bk.new v4 #[.int .i64 0, .int .u32 0, .bool false, .slice none 0 0, .slice none 0 0] 34
    have KS := hHeld.1.size
    have V_b : w.heap.size ≤ v4.heap.size := by omega
    have ne_H_V : gH ≠ v4.heap.size := by have := (hHeld.2.1).lt; omega
    have ne_G_V : gG ≠ v4.heap.size := by have := (hHeld.2.2.1).lt; omega
    have ne_J_V : gJ ≠ v4.heap.size := by have := (hHeld.2.2.2.1).lt; omega
    clear KS
    go_simp
    refine hK.out _ _ ⟨Below.then_ hHeld.1 K', hHeld.2.1.below K', hHeld.2.2.1.below K', hHeld.2.2.2.1.below K', trivial⟩ (fun hHeld' => ?_)
    clear hHeld hK K0 K'
    have hHeld := hHeld'
    clear hHeld'
    generalize v4.alloc (.cells #[.int .i64 0, .int .u32 0, .bool false, .slice none 0 0, .slice none 0 0] 34) = v5 at hHeld V  ⊢
    generalize v4.heap.size = gV at V V_b ne_H_V ne_G_V ne_J_V  ⊢
    try simp only [Act.put, List.setIfInBounds_toArray, List.set_cons_zero, List.set_cons_succ]
    refine wpAnyH_ready (rs := [5]) (by kernel_rfl) (by simp) ?_
    refine AllReadyH.cons (o := ⟨some 22, _, _, _, _, _⟩) rfl (fun K0 hK => ?_) AllReadyH.nil
    go_simp
    refine ((TD _ (hL0.below hHeld.1) (h0.below hHeld.1) (hs0.below hHeld.1)).out).mono ?_
    have H_l := (hHeld.2.1).lt
    have G_l := (hHeld.2.2.1).lt
    have J_l := (hHeld.2.2.2.1).lt
    have V_l := V.lt
    rintro e v6 ⟨SA, Sn, Sc, DA, Dn, Dc, EA, En, Ec, rfl, S, hav, D, E, K'⟩
    have S_V := hav gV V_l (hs0.av_old V_b)
    have D_V := D.av V_l
    have E_V := E.av V_l
    have hav0 : ∀ g, g < w.heap.size → Av g B m → Av g SA Sn := fun g hg => hav g (Nat.lt_of_lt_of_le hg (Below.size hHeld.1))
    replace D := D.lower (Below.size hHeld.1)
    replace E := E.lower (Below.size hHeld.1)
    clear hav TD
    refine hK.out _ _ ⟨Below.then_ hHeld.1 K', hHeld.2.1.below K', hHeld.2.2.1.below K', hHeld.2.2.2.1.below K', trivial⟩ (fun hHeld' => ?_)
    replace V := V.below K'
    clear hHeld K' hK K0
    clear H_l G_l J_l V_l
    have hHeld := hHeld'
    clear hHeld'
    try simp only [Act.put, List.setIfInBounds_toArray, List.set_cons_zero, List.set_cons_succ]
    refine wpAnyH_take (i := 6) (oi := ⟨some 16, _, _, _, _, _⟩) (v := ?_) rfl (by kernel_rfl) (by kernel_rfl) (by kernel_rfl) (fun _ _ _ h => h) (Or.inl ⟨by rfl, ?_⟩) hHeld ?_
    rotate_left
    · intro ww hSw
      try dsimp only at hSw
      go_simp
      try with_reducible rfl
      try omega
    try simp only [Act.put, List.setIfInBounds_toArray, List.set_cons_zero, List.set_cons_succ]
    refine wpAnyH_take (i := 7) (oi := ⟨some 23, _, _, _, _, _⟩) (v := ?_) rfl (by kernel_rfl) (by kernel_rfl) (by kernel_rfl) (fun _ _ _ h => h) (Or.inl ⟨by rfl, ?_⟩) hHeld ?_
    rotate_left
    · intro ww hSw
      try dsimp only at hSw
      go_simp
      try with_reducible rfl
      try omega
    try simp only [Act.put, List.setIfInBounds_toArray, List.set_cons_zero, List.set_cons_succ]
    refine wpAnyH_take (i := 8) (oi := ⟨some 24, _, _, _, _, _⟩) (v := ?_) rfl (by kernel_rfl) (by kernel_rfl) (by kernel_rfl) (fun _ _ _ h => h) (Or.inl ⟨by rfl, ?_⟩) hHeld ?_
    rotate_left
    · intro ww hSw
      try dsimp only at hSw
      go_simp
      try with_reducible rfl
      try omega
    try simp only [Act.put, List.setIfInBounds_toArray, List.set_cons_zero, List.set_cons_succ]
    refine wpAnyH_take (i := 10) (oi := ⟨some 10, _, _, _, _, _⟩) (v := ?_) rfl (by kernel_rfl) (by kernel_rfl) (by kernel_rfl) (fun _ _ _ h => h) (Or.inl ⟨by rfl, ?_⟩) hHeld ?_
    rotate_left
    · intro ww hSw
      try dsimp only at hSw
      go_simp
      try with_reducible rfl
      try omega
    try simp only [Act.put, List.setIfInBounds_toArray, List.set_cons_zero, List.set_cons_succ]
    refine wpAnyH_ready (rs := [11]) (by kernel_rfl) (by simp) ?_
    refine AllReadyH.cons (o := ⟨none, _, _, _, _, _⟩) rfl (fun K0 hK => ?_) AllReadyH.nil
    rw [if_pos (by rfl)]
    refine wp_store_row 34 (.tmp 11) (.tmp 24) rfl gV _ rfl (show _ = Value.agg #[.int .i64 r.2.1, .int .u32 r.2.2.1, .bool r.2.2.2.1, .slice DA Dn Dc, .slice EA En Ec] from rfl) _ _ V an_sz rfl (by simp [Value.oneCell']) ?_
    replace V := Bk.row V #[.int .i64 r.2.1, .int .u32 r.2.2.1, .bool r.2.2.2.1, .slice DA Dn Dc, .slice EA En Ec]
    refine hK.out _ _ ⟨below_setRow hHeld.1 V_b _, hHeld.2.1.row_far ne_H_V _, hHeld.2.2.1.row_far ne_G_V _, hHeld.2.2.2.1.row_far ne_J_V _, trivial⟩ (fun hHeld' => ?_)
    replace S := S.row_av S_V #[.int .i64 r.2.1, .int .u32 r.2.2.1, .bool r.2.2.2.1, .slice DA Dn Dc, .slice EA En Ec]
    replace D := D.row_av D_V #[.int .i64 r.2.1, .int .u32 r.2.2.1, .bool r.2.2.2.1, .slice DA Dn Dc, .slice EA En Ec]
    replace E := E.row_av E_V #[.int .i64 r.2.1, .int .u32 r.2.2.1, .bool r.2.2.2.1, .slice DA Dn Dc, .slice EA En Ec]
    clear hHeld hK K0
    have hHeld := hHeld'
    clear hHeld'
    generalize v6.setRow gV #[.int .i64 r.2.1, .int .u32 r.2.2.1, .bool r.2.2.2.1, .slice DA Dn Dc, .slice EA En Ec] = v7 at hHeld  V S D E ⊢
    try simp only [Act.put]
    refine wpAnyH_done (by kernel_rfl) ?_ _
    replace K := hHeld.1
    replace H := hHeld.2.1
    replace G := hHeld.2.2.1
    replace J := hHeld.2.2.2.1
    clear hHeld
    replace hL := hL0.below K
    replace h := h0.below K
    replace hs := hs0.below K
    replace hy := hy0.below K
    replace hA := hA0.below K
    replace hE := hE0.below K
    have hDn : Dn ≤ 65536 ∧ En ≤ 65536 := by have h1 := D.len; have h2 := E.len; have h3 := hrl.out; omega
    have T := Lib.hid (same_is (x := x) (y := r.2) hA hE D E (by omega) (by omega) hDn.1 hDn.2 (decide_eq_false hsb.out))
    have J_0 := J.at_ (v := .int .i64 x.1) 0 rfl
    have J_1 := J.at_ (v := .int .u32 x.2.1) 1 rfl
    have J_2 := J.at_ (v := .bool x.2.2.1) 2 rfl
    have J_3 := J.at_ (v := .slice P p1 p2) 3 rfl
    have J_4 := J.at_ (v := .slice Q q1 q2) 4 rfl
    have J_z := J.lt
    have V_0 := V.at_ (v := .int .i64 r.2.1) 0 rfl
    have V_1 := V.at_ (v := .int .u32 r.2.2.1) 1 rfl
    have V_2 := V.at_ (v := .bool r.2.2.2.1) 2 rfl
    have V_3 := V.at_ (v := .slice DA Dn Dc) 3 rfl
    have V_4 := V.at_ (v := .slice EA En Ec) 4 rfl
    have V_z := V.lt
    go_wp2_with fail
    refine T.out.mono ?_
    rintro e u8 ⟨rfl, K'⟩
    clear J_0 J_1 J_2 J_3 J_4 J_z
    clear V_0 V_1 V_2 V_3 V_4 V_z
    replace H := H.below K'
    replace G := G.below K'
    replace J := J.below K'
    replace V := V.below K'
    replace hL := hL.below K'
    replace h := h.below K'
    replace hs := hs.below K'
    replace hy := hy.below K'
    replace hA := hA.below K'
    replace hE := hE.below K'
    replace S := S.below K'
    replace D := D.below K'
    replace E := E.below K'
    replace K := Below.then_ K K'
    clear K'
    go_wp2
    go_ret2
    exact ⟨_, _, _, rfl, hs.lower (Nat.zero_le _), (fun _ _ h => h), K⟩
  refine AllReadyH.cons (o := ⟨some 11, _, _, _, _, _⟩) rfl (fun K0 hK => ?_) AllReadyH.nil
  have K' := below_alloc v3 (.cells #[.int .i64 0, .int .u32 0, .bool false, .slice none 0 0, .slice none 0 0] 34)
  have V := Bk.new v3 #[.int .i64 0, .int .u32 0, .bool false, .slice none 0 0, .slice none 0 0] 34
  have KS := hHeld.1.size
  have V_b : w.heap.size ≤ v3.heap.size := by omega
  have ne_H_V : gH ≠ v3.heap.size := by have := (hHeld.2.1).lt; omega
  have ne_G_V : gG ≠ v3.heap.size := by have := (hHeld.2.2.1).lt; omega
  have ne_J_V : gJ ≠ v3.heap.size := by have := (hHeld.2.2.2.1).lt; omega
  clear KS
  go_simp
  refine hK.out _ _ ⟨Below.then_ hHeld.1 K', hHeld.2.1.below K', hHeld.2.2.1.below K', hHeld.2.2.2.1.below K', trivial⟩ (fun hHeld' => ?_)
  clear hHeld hK K0 K'
  have hHeld := hHeld'
  clear hHeld'
  generalize v3.alloc (.cells #[.int .i64 0, .int .u32 0, .bool false, .slice none 0 0, .slice none 0 0] 34) = v4 at hHeld V  ⊢
  generalize v3.heap.size = gV at V V_b ne_H_V ne_G_V ne_J_V  ⊢
  try simp only [Act.put, List.setIfInBounds_toArray, List.set_cons_zero, List.set_cons_succ]
  refine wpAnyH_ready (rs := [4]) (by kernel_rfl) (by simp) ?_
  refine AllReadyH.cons (o := ⟨some 21, _, _, _, _, _⟩) rfl (fun K0 hK => ?_) AllReadyH.nil
  go_simp
  refine ((TS _).out).mono ?_
  rintro e v5 ⟨rfl, K'⟩
  refine hK.out _ _ ⟨Below.then_ hHeld.1 K', hHeld.2.1.below K', hHeld.2.2.1.below K', hHeld.2.2.2.1.below K', trivial⟩ (fun hHeld' => ?_)
  replace V := V.below K'
  clear hHeld K' hK K0
  have hHeld := hHeld'
  clear hHeld'
  try simp only [Act.put, List.setIfInBounds_toArray, List.set_cons_zero, List.set_cons_succ]
  refine wpAnyH_ready (rs := [5]) (by kernel_rfl) (by simp) ?_
  refine AllReadyH.cons (o := ⟨some 22, _, _, _, _, _⟩) rfl (fun K0 hK => ?_) AllReadyH.nil
  go_simp
  refine ((TD _ (hL0.below hHeld.1) (h0.below hHeld.1) (hs0.below hHeld.1)).out).mono ?_
  have H_l := (hHeld.2.1).lt
  have G_l := (hHeld.2.2.1).lt
  have J_l := (hHeld.2.2.2.1).lt
  have V_l := V.lt
  rintro e v6 ⟨SA, Sn, Sc, DA, Dn, Dc, EA, En, Ec, rfl, S, hav, D, E, K'⟩
  have S_V := hav gV V_l (hs0.av_old V_b)
  have D_V := D.av V_l
  have E_V := E.av V_l
  have hav0 : ∀ g, g < w.heap.size → Av g B m → Av g SA Sn := fun g hg => hav g (Nat.lt_of_lt_of_le hg (Below.size hHeld.1))
  replace D := D.lower (Below.size hHeld.1)
  replace E := E.lower (Below.size hHeld.1)
  clear hav TD
  refine hK.out _ _ ⟨Below.then_ hHeld.1 K', hHeld.2.1.below K', hHeld.2.2.1.below K', hHeld.2.2.2.1.below K', trivial⟩ (fun hHeld' => ?_)
  replace V := V.below K'
  clear hHeld K' hK K0
  clear H_l G_l J_l V_l
  have hHeld := hHeld'
  clear hHeld'
  try simp only [Act.put, List.setIfInBounds_toArray, List.set_cons_zero, List.set_cons_succ]
  refine wpAnyH_take (i := 6) (oi := ⟨some 16, _, _, _, _, _⟩) (v := ?_) rfl (by kernel_rfl) (by kernel_rfl) (by kernel_rfl) (fun _ _ _ h => h) (Or.inl ⟨by rfl, ?_⟩) hHeld ?_
  rotate_left
  · intro ww hSw
    try dsimp only at hSw
    go_simp
    try with_reducible rfl
    try omega
  try simp only [Act.put, List.setIfInBounds_toArray, List.set_cons_zero, List.set_cons_succ]
  refine wpAnyH_take (i := 7) (oi := ⟨some 23, _, _, _, _, _⟩) (v := ?_) rfl (by kernel_rfl) (by kernel_rfl) (by kernel_rfl) (fun _ _ _ h => h) (Or.inl ⟨by rfl, ?_⟩) hHeld ?_
  rotate_left
  · intro ww hSw
    try dsimp only at hSw
    go_simp
    try with_reducible rfl
    try omega
  try simp only [Act.put, List.setIfInBounds_toArray, List.set_cons_zero, List.set_cons_succ]
  refine wpAnyH_take (i := 8) (oi := ⟨some 24, _, _, _, _, _⟩) (v := ?_) rfl (by kernel_rfl) (by kernel_rfl) (by kernel_rfl) (fun _ _ _ h => h) (Or.inl ⟨by rfl, ?_⟩) hHeld ?_
  rotate_left
  · intro ww hSw
    try dsimp only at hSw
    go_simp
    try with_reducible rfl
    try omega
  try simp only [Act.put, List.setIfInBounds_toArray, List.set_cons_zero, List.set_cons_succ]
  refine wpAnyH_take (i := 10) (oi := ⟨some 10, _, _, _, _, _⟩) (v := ?_) rfl (by kernel_rfl) (by kernel_rfl) (by kernel_rfl) (fun _ _ _ h => h) (Or.inl ⟨by rfl, ?_⟩) hHeld ?_
  rotate_left
  · intro ww hSw
    try dsimp only at hSw
    go_simp
    try with_reducible rfl
    try omega
  try simp only [Act.put, List.setIfInBounds_toArray, List.set_cons_zero, List.set_cons_succ]
  refine wpAnyH_ready (rs := [11]) (by kernel_rfl) (by simp) ?_
  refine AllReadyH.cons (o := ⟨none, _, _, _, _, _⟩) rfl (fun K0 hK => ?_) AllReadyH.nil
  rw [if_pos (by rfl)]
  refine wp_store_row 34 (.tmp 11) (.tmp 24) rfl gV _ rfl (show _ = Value.agg #[.int .i64 r.2.1, .int .u32 r.2.2.1, .bool r.2.2.2.1, .slice DA Dn Dc, .slice EA En Ec] from rfl) _ _ V an_sz rfl (by simp [Value.oneCell']) ?_
  replace V := Bk.row V #[.int .i64 r.2.1, .int .u32 r.2.2.1, .bool r.2.2.2.1, .slice DA Dn Dc, .slice EA En Ec]
  refine hK.out _ _ ⟨below_setRow hHeld.1 V_b _, hHeld.2.1.row_far ne_H_V _, hHeld.2.2.1.row_far ne_G_V _, hHeld.2.2.2.1.row_far ne_J_V _, trivial⟩ (fun hHeld' => ?_)
  replace S := S.row_av S_V #[.int .i64 r.2.1, .int .u32 r.2.2.1, .bool r.2.2.2.1, .slice DA Dn Dc, .slice EA En Ec]
  replace D := D.row_av D_V #[.int .i64 r.2.1, .int .u32 r.2.2.1, .bool r.2.2.2.1, .slice DA Dn Dc, .slice EA En Ec]
  replace E := E.row_av E_V #[.int .i64 r.2.1, .int .u32 r.2.2.1, .bool r.2.2.2.1, .slice DA Dn Dc, .slice EA En Ec]
  clear hHeld hK K0
  have hHeld := hHeld'
  clear hHeld'
  generalize v6.setRow gV #[.int .i64 r.2.1, .int .u32 r.2.2.1, .bool r.2.2.2.1, .slice DA Dn Dc, .slice EA En Ec] = v7 at hHeld  V S D E ⊢
  try simp only [Act.put]
  refine wpAnyH_done (by kernel_rfl) ?_ _
  replace K := hHeld.1
  replace H := hHeld.2.1
  replace G := hHeld.2.2.1
  replace J := hHeld.2.2.2.1
  clear hHeld
  replace hL := hL0.below K
  replace h := h0.below K
  replace hs := hs0.below K
  replace hy := hy0.below K
  replace hA := hA0.below K
  replace hE := hE0.below K
  have hDn : Dn ≤ 65536 ∧ En ≤ 65536 := by have h1 := D.len; have h2 := E.len; have h3 := hrl.out; omega
  have T := Lib.hid (same_is (x := x) (y := r.2) hA hE D E (by omega) (by omega) hDn.1 hDn.2 (decide_eq_false hsb.out))
  have J_0 := J.at_ (v := .int .i64 x.1) 0 rfl
  have J_1 := J.at_ (v := .int .u32 x.2.1) 1 rfl
  have J_2 := J.at_ (v := .bool x.2.2.1) 2 rfl
  have J_3 := J.at_ (v := .slice P p1 p2) 3 rfl
  have J_4 := J.at_ (v := .slice Q q1 q2) 4 rfl
  have J_z := J.lt
  have V_0 := V.at_ (v := .int .i64 r.2.1) 0 rfl
  have V_1 := V.at_ (v := .int .u32 r.2.2.1) 1 rfl
  have V_2 := V.at_ (v := .bool r.2.2.2.1) 2 rfl
  have V_3 := V.at_ (v := .slice DA Dn Dc) 3 rfl
  have V_4 := V.at_ (v := .slice EA En Ec) 4 rfl
  have V_z := V.lt
  go_wp2_with fail
  refine T.out.mono ?_
  rintro e u8 ⟨rfl, K'⟩
  clear J_0 J_1 J_2 J_3 J_4 J_z
  clear V_0 V_1 V_2 V_3 V_4 V_z
  replace H := H.below K'
  replace G := G.below K'
  replace J := J.below K'
  replace V := V.below K'
  replace hL := hL.below K'
  replace h := h.below K'
  replace hs := hs.below K'
  replace hy := hy.below K'
  replace hA := hA.below K'
  replace hE := hE.below K'
  replace S := S.below K'
  replace D := D.below K'
  replace E := E.below K'
  replace K := Below.then_ K K'
  clear K'
  go_wp2
  go_ret2
  exact ⟨_, _, _, rfl, hs.lower (Nat.zero_le _), (fun _ _ h => h), K⟩
set_option maxRecDepth 100000 in
set_option maxHeartbeats 4000000 in
theorem legal_do_yes (hL0 : Laid w) (ha : a < 4294967296) (hM : Much a p M) (h0 : IS .i64 lo w A n c zs) (hn : n ≤ 65536) (hs0 : IS .i64 lo2 w B m d xs) (hm : m ≤ 60000) (hx : mayR M zs 0 xs = true) (hX : X < 4294967296) (hy0 : IS .u32 lo3 w C q f ys) (hq : q ≤ 60000) (hw : W32 ys) (hA0 : IS .u32 lo4 w P p1 p2 x.2.2.2.1) (hE0 : IS .i64 lo5 w Q q1 q2 x.2.2.2.2) (b1 : p1 ≤ 60000) (b2 : q1 ≤ 60000) (hp : putO k x = false) (hg : ¬ (k = 1 ∧ x.1 = 0)) {r : List Int × An} (hdo : stS a M zs xs k X ys x = r) (hsm : x = r.2) :
    Calls Tryd.prog 13 #[.agg #[.int .u32 (a : Int), .int .i64 p, .slice A n c, .int .i64 sh, .int .i64 wo, .int .i64 qu, .int .i64 tr], .slice B m d, .agg #[.int .i64 k, .int .u32 (X : Int), .slice C q f], .agg #[.int .i64 x.1, .int .u32 x.2.1, .bool x.2.2.1, .slice P p1 p2, .slice Q q1 q2]] w (RetLB B m (r.1, true) w) := by
  replace hw := Lib.hid hw
  have hsb := Lib.hid hsm
  have hrl : Hid (r.2.2.2.2.1.length ≤ m ∧ r.2.2.2.2.2.length ≤ q) := Lib.hid (by rw [← hdo, ← hs0.len, ← hy0.len]; exact stS_len k X ys x)
  replace hx := Lib.hid hx
  have hd2 : someS a M zs xs k X ys = r := by rw [← hdo]; unfold stS; rw [if_neg hg]
  have TS := fun w => Lib.hid (set_same (w := w) (X := X) (C := C) (q := q) (f := f) (P := P) (p1 := p1) (p2 := p2) (Q := Q) (q1 := q1) (q2 := q2) hg)
  have TD := fun w (hL0 : Laid w) (h0 : IS .i64 lo w A n c zs) (hs0 : IS .i64 lo2 w B m d xs) (hy0 : IS .u32 lo3 w C q f ys) => Lib.hid (show Calls _ _ _ w (RetSA B m r.1 r.2 w) from by rw [← hd2]; exact some_any (k := k) (X := X) (sh := sh) (wo := wo) (qu := qu) (tr := tr) hL0 ha hM h0 hn hs0 hm hx.out hX hy0 hq hw.out)
  clear hg hd2 hdo
  clear hsm
  have hL := hL0
  have h := h0
  have hs := hs0
  have hy := hy0
  have hA := hA0
  have hE := hE0
  have K := Below.refl w.heap.size w
  go_enter Tryd.func13, Tryd.ntmps13
  go_upto_region 1 with (fail)
  have KS := K.size
  replace hL := hL.below (below_alloc _ (.cells #[.int .u32 (a : Int), .int .i64 p, .slice A n c, .int .i64 sh, .int .i64 wo, .int .i64 qu, .int .i64 tr] 27))
  replace h := h.below (below_alloc _ (.cells #[.int .u32 (a : Int), .int .i64 p, .slice A n c, .int .i64 sh, .int .i64 wo, .int .i64 qu, .int .i64 tr] 27))
  replace hs := hs.below (below_alloc _ (.cells #[.int .u32 (a : Int), .int .i64 p, .slice A n c, .int .i64 sh, .int .i64 wo, .int .i64 qu, .int .i64 tr] 27))
  replace hy := hy.below (below_alloc _ (.cells #[.int .u32 (a : Int), .int .i64 p, .slice A n c, .int .i64 sh, .int .i64 wo, .int .i64 qu, .int .i64 tr] 27))
  replace hA := hA.below (below_alloc _ (.cells #[.int .u32 (a : Int), .int .i64 p, .slice A n c, .int .i64 sh, .int .i64 wo, .int .i64 qu, .int .i64 tr] 27))
  replace hE := hE.below (below_alloc _ (.cells #[.int .u32 (a : Int), .int .i64 p, .slice A n c, .int .i64 sh, .int .i64 wo, .int .i64 qu, .int .i64 tr] 27))
  replace K := Below.then_ K (below_alloc _ (.cells #[.int .u32 (a : Int), .int .i64 p, .slice A n c, .int .i64 sh, .int .i64 wo, .int .i64 qu, .int .i64 tr] 27))
  have H := Bk.new (w) #[.int .u32 (a : Int), .int .i64 p, .slice A n c, .int .i64 sh, .int .i64 wo, .int .i64 qu, .int .i64 tr] 27
  replace H := H.alloc (.cells #[.int .i64 k, .int .u32 (X : Int), .slice C q f] 30)
  replace hL := hL.below (below_alloc _ (.cells #[.int .i64 k, .int .u32 (X : Int), .slice C q f] 30))
  replace h := h.below (below_alloc _ (.cells #[.int .i64 k, .int .u32 (X : Int), .slice C q f] 30))
  replace hs := hs.below (below_alloc _ (.cells #[.int .i64 k, .int .u32 (X : Int), .slice C q f] 30))
  replace hy := hy.below (below_alloc _ (.cells #[.int .i64 k, .int .u32 (X : Int), .slice C q f] 30))
  replace hA := hA.below (below_alloc _ (.cells #[.int .i64 k, .int .u32 (X : Int), .slice C q f] 30))
  replace hE := hE.below (below_alloc _ (.cells #[.int .i64 k, .int .u32 (X : Int), .slice C q f] 30))
  replace K := Below.then_ K (below_alloc _ (.cells #[.int .i64 k, .int .u32 (X : Int), .slice C q f] 30))
  have G := Bk.new ((w).alloc (.cells #[.int .u32 (a : Int), .int .i64 p, .slice A n c, .int .i64 sh, .int .i64 wo, .int .i64 qu, .int .i64 tr] 27)) #[.int .i64 k, .int .u32 (X : Int), .slice C q f] 30
  replace H := H.alloc (.cells #[.int .i64 x.1, .int .u32 x.2.1, .bool x.2.2.1, .slice P p1 p2, .slice Q q1 q2] 34)
  replace G := G.alloc (.cells #[.int .i64 x.1, .int .u32 x.2.1, .bool x.2.2.1, .slice P p1 p2, .slice Q q1 q2] 34)
  replace hL := hL.below (below_alloc _ (.cells #[.int .i64 x.1, .int .u32 x.2.1, .bool x.2.2.1, .slice P p1 p2, .slice Q q1 q2] 34))
  replace h := h.below (below_alloc _ (.cells #[.int .i64 x.1, .int .u32 x.2.1, .bool x.2.2.1, .slice P p1 p2, .slice Q q1 q2] 34))
  replace hs := hs.below (below_alloc _ (.cells #[.int .i64 x.1, .int .u32 x.2.1, .bool x.2.2.1, .slice P p1 p2, .slice Q q1 q2] 34))
  replace hy := hy.below (below_alloc _ (.cells #[.int .i64 x.1, .int .u32 x.2.1, .bool x.2.2.1, .slice P p1 p2, .slice Q q1 q2] 34))
  replace hA := hA.below (below_alloc _ (.cells #[.int .i64 x.1, .int .u32 x.2.1, .bool x.2.2.1, .slice P p1 p2, .slice Q q1 q2] 34))
  replace hE := hE.below (below_alloc _ (.cells #[.int .i64 x.1, .int .u32 x.2.1, .bool x.2.2.1, .slice P p1 p2, .slice Q q1 q2] 34))
  replace K := Below.then_ K (below_alloc _ (.cells #[.int .i64 x.1, .int .u32 x.2.1, .bool x.2.2.1, .slice P p1 p2, .slice Q q1 q2] 34))
  have J := Bk.new (((w).alloc (.cells #[.int .u32 (a : Int), .int .i64 p, .slice A n c, .int .i64 sh, .int .i64 wo, .int .i64 qu, .int .i64 tr] 27)).alloc (.cells #[.int .i64 k, .int .u32 (X : Int), .slice C q f] 30)) #[.int .i64 x.1, .int .u32 x.2.1, .bool x.2.2.1, .slice P p1 p2, .slice Q q1 q2] 34
  try simp only [World.size_alloc] at H G J
  generalize (((w).alloc (.cells #[.int .u32 (a : Int), .int .i64 p, .slice A n c, .int .i64 sh, .int .i64 wo, .int .i64 qu, .int .i64 tr] 27)).alloc (.cells #[.int .i64 k, .int .u32 (X : Int), .slice C q f] 30)).alloc (.cells #[.int .i64 x.1, .int .u32 x.2.1, .bool x.2.2.1, .slice P p1 p2, .slice Q q1 q2] 34) = w1 at H G J hL h hs hy hA hE K ⊢
  generalize hgJ : w.heap.size + 1 + 1 = gJ at H G J ⊢
  generalize hgG : w.heap.size + 1 = gG at H G J ⊢
  generalize hgH : w.heap.size = gH at H G J ⊢
  have H_b : w.heap.size ≤ gH := by omega
  have G_b : w.heap.size ≤ gG := by omega
  have J_b : w.heap.size ≤ gJ := by omega
  have ne_H_G : gH ≠ gG := by omega
  have ne_H_J : gH ≠ gJ := by omega
  have ne_G_J : gG ≠ gJ := by omega
  clear KS hgH hgG hgJ 
  have T := put_any (k := k) (X := X) (C := C) (q := q) (f := f) hA hE b1 b2
  rw [hp] at T
  replace T := Lib.hid T
  have G_0 := G.at_ (v := .int .i64 k) 0 rfl
  have G_1 := G.at_ (v := .int .u32 (X : Int)) 1 rfl
  have G_2 := G.at_ (v := .slice C q f) 2 rfl
  have G_z := G.lt
  have J_0 := J.at_ (v := .int .i64 x.1) 0 rfl
  have J_1 := J.at_ (v := .int .u32 x.2.1) 1 rfl
  have J_2 := J.at_ (v := .bool x.2.2.1) 2 rfl
  have J_3 := J.at_ (v := .slice P p1 p2) 3 rfl
  have J_4 := J.at_ (v := .slice Q q1 q2) 4 rfl
  have J_z := J.lt
  go_wp2_with fail
  refine (T.out).mono ?_
  rintro e w2 ⟨rfl, K'⟩
  clear G_0 G_1 G_2 G_z
  clear J_0 J_1 J_2 J_3 J_4 J_z
  replace H := H.below K'
  replace G := G.below K'
  replace J := J.below K'
  replace hL := hL.below K'
  replace h := h.below K'
  replace hs := hs.below K'
  replace hy := hy.below K'
  replace hA := hA.below K'
  replace hE := hE.below K'
  replace K := Below.then_ K K'
  clear K'
  clear T
  go_wp2
  refine wp_region_held_drew (S := fun w' => Below w.heap.size w w' ∧ Bk w' gH 27 #[.int .u32 (a : Int), .int .i64 p, .slice A n c, .int .i64 sh, .int .i64 wo, .int .i64 qu, .int .i64 tr] ∧ Bk w' gG 30 #[.int .i64 k, .int .u32 (X : Int), .slice C q f] ∧ Bk w' gJ 34 #[.int .i64 x.1, .int .u32 x.2.1, .bool x.2.2.1, .slice P p1 p2, .slice Q q1 q2] ∧ True) (by kernel_rfl) ⟨K.drew, H.below ((Below.refl _ _).drew), G.below ((Below.refl _ _).drew), J.below ((Below.refl _ _).drew), trivial⟩ (fun hHeld => ?_)
  generalize w2.drew = v3 at hHeld  ⊢
  refine wpAnyH_take (i := 0) (oi := ⟨some 17, _, _, _, _, _⟩) (v := ?_) rfl (by kernel_rfl) (by kernel_rfl) (by kernel_rfl) (fun _ _ _ h => h) (Or.inl ⟨by rfl, ?_⟩) hHeld ?_
  rotate_left
  · intro ww hSw
    try dsimp only at hSw
    have H_0 := (hSw.2.1).at_ (v := .int .u32 (a : Int)) 0 rfl
    have H_1 := (hSw.2.1).at_ (v := .int .i64 p) 1 rfl
    have H_2 := (hSw.2.1).at_ (v := .slice A n c) 2 rfl
    have H_3 := (hSw.2.1).at_ (v := .int .i64 sh) 3 rfl
    have H_4 := (hSw.2.1).at_ (v := .int .i64 wo) 4 rfl
    have H_5 := (hSw.2.1).at_ (v := .int .i64 qu) 5 rfl
    have H_6 := (hSw.2.1).at_ (v := .int .i64 tr) 6 rfl
    have H_z := (hSw.2.1).lt
    have G_0 := (hSw.2.2.1).at_ (v := .int .i64 k) 0 rfl
    have G_1 := (hSw.2.2.1).at_ (v := .int .u32 (X : Int)) 1 rfl
    have G_2 := (hSw.2.2.1).at_ (v := .slice C q f) 2 rfl
    have G_z := (hSw.2.2.1).lt
    have J_0 := (hSw.2.2.2.1).at_ (v := .int .i64 x.1) 0 rfl
    have J_1 := (hSw.2.2.2.1).at_ (v := .int .u32 x.2.1) 1 rfl
    have J_2 := (hSw.2.2.2.1).at_ (v := .bool x.2.2.1) 2 rfl
    have J_3 := (hSw.2.2.2.1).at_ (v := .slice P p1 p2) 3 rfl
    have J_4 := (hSw.2.2.2.1).at_ (v := .slice Q q1 q2) 4 rfl
    have J_z := (hSw.2.2.2.1).lt
    go_simp
    try with_reducible rfl
    try omega
  try simp only [Act.put, List.setIfInBounds_toArray, List.set_cons_zero, List.set_cons_succ]
  refine wpAnyH_take (i := 1) (oi := ⟨some 18, _, _, _, _, _⟩) (v := ?_) rfl (by kernel_rfl) (by kernel_rfl) (by kernel_rfl) (fun _ _ _ h => h) (Or.inl ⟨by rfl, ?_⟩) hHeld ?_
  rotate_left
  · intro ww hSw
    try dsimp only at hSw
    go_simp
    try with_reducible rfl
    try omega
  try simp only [Act.put, List.setIfInBounds_toArray, List.set_cons_zero, List.set_cons_succ]
  refine wpAnyH_take (i := 2) (oi := ⟨some 19, _, _, _, _, _⟩) (v := ?_) rfl (by kernel_rfl) (by kernel_rfl) (by kernel_rfl) (fun _ _ _ h => h) (Or.inl ⟨by rfl, ?_⟩) hHeld ?_
  rotate_left
  · intro ww hSw
    try dsimp only at hSw
    have H_0 := (hSw.2.1).at_ (v := .int .u32 (a : Int)) 0 rfl
    have H_1 := (hSw.2.1).at_ (v := .int .i64 p) 1 rfl
    have H_2 := (hSw.2.1).at_ (v := .slice A n c) 2 rfl
    have H_3 := (hSw.2.1).at_ (v := .int .i64 sh) 3 rfl
    have H_4 := (hSw.2.1).at_ (v := .int .i64 wo) 4 rfl
    have H_5 := (hSw.2.1).at_ (v := .int .i64 qu) 5 rfl
    have H_6 := (hSw.2.1).at_ (v := .int .i64 tr) 6 rfl
    have H_z := (hSw.2.1).lt
    have G_0 := (hSw.2.2.1).at_ (v := .int .i64 k) 0 rfl
    have G_1 := (hSw.2.2.1).at_ (v := .int .u32 (X : Int)) 1 rfl
    have G_2 := (hSw.2.2.1).at_ (v := .slice C q f) 2 rfl
    have G_z := (hSw.2.2.1).lt
    have J_0 := (hSw.2.2.2.1).at_ (v := .int .i64 x.1) 0 rfl
    have J_1 := (hSw.2.2.2.1).at_ (v := .int .u32 x.2.1) 1 rfl
    have J_2 := (hSw.2.2.2.1).at_ (v := .bool x.2.2.1) 2 rfl
    have J_3 := (hSw.2.2.2.1).at_ (v := .slice P p1 p2) 3 rfl
    have J_4 := (hSw.2.2.2.1).at_ (v := .slice Q q1 q2) 4 rfl
    have J_z := (hSw.2.2.2.1).lt
    go_simp
    try with_reducible rfl
    try omega
  try simp only [Act.put, List.setIfInBounds_toArray, List.set_cons_zero, List.set_cons_succ]
  refine wpAnyH_take (i := 3) (oi := ⟨some 20, _, _, _, _, _⟩) (v := ?_) rfl (by kernel_rfl) (by kernel_rfl) (by kernel_rfl) (fun _ _ _ h => h) (Or.inl ⟨by rfl, ?_⟩) hHeld ?_
  rotate_left
  · intro ww hSw
    try dsimp only at hSw
    have H_0 := (hSw.2.1).at_ (v := .int .u32 (a : Int)) 0 rfl
    have H_1 := (hSw.2.1).at_ (v := .int .i64 p) 1 rfl
    have H_2 := (hSw.2.1).at_ (v := .slice A n c) 2 rfl
    have H_3 := (hSw.2.1).at_ (v := .int .i64 sh) 3 rfl
    have H_4 := (hSw.2.1).at_ (v := .int .i64 wo) 4 rfl
    have H_5 := (hSw.2.1).at_ (v := .int .i64 qu) 5 rfl
    have H_6 := (hSw.2.1).at_ (v := .int .i64 tr) 6 rfl
    have H_z := (hSw.2.1).lt
    have G_0 := (hSw.2.2.1).at_ (v := .int .i64 k) 0 rfl
    have G_1 := (hSw.2.2.1).at_ (v := .int .u32 (X : Int)) 1 rfl
    have G_2 := (hSw.2.2.1).at_ (v := .slice C q f) 2 rfl
    have G_z := (hSw.2.2.1).lt
    have J_0 := (hSw.2.2.2.1).at_ (v := .int .i64 x.1) 0 rfl
    have J_1 := (hSw.2.2.2.1).at_ (v := .int .u32 x.2.1) 1 rfl
    have J_2 := (hSw.2.2.2.1).at_ (v := .bool x.2.2.1) 2 rfl
    have J_3 := (hSw.2.2.2.1).at_ (v := .slice P p1 p2) 3 rfl
    have J_4 := (hSw.2.2.2.1).at_ (v := .slice Q q1 q2) 4 rfl
    have J_z := (hSw.2.2.2.1).lt
    go_simp
    try with_reducible rfl
    try omega
  try simp only [Act.put, List.setIfInBounds_toArray, List.set_cons_zero, List.set_cons_succ]
  refine wpAnyH_ready (rs := [4, 9]) (by kernel_rfl) (by simp) ?_
  refine AllReadyH.cons (o := ⟨some 21, _, _, _, _, _⟩) rfl (fun K0 hK => ?_) ?_
  · go_simp
    refine ((TS _).out).mono ?_
    rintro e v4 ⟨rfl, K'⟩
    refine hK.out _ _ ⟨Below.then_ hHeld.1 K', hHeld.2.1.below K', hHeld.2.2.1.below K', hHeld.2.2.2.1.below K', trivial⟩ (fun hHeld' => ?_)
    clear hHeld K' hK K0
    have hHeld := hHeld'
    clear hHeld'
    try simp only [Act.put, List.setIfInBounds_toArray, List.set_cons_zero, List.set_cons_succ]
    refine wpAnyH_ready (rs := [5, 9]) (by kernel_rfl) (by simp) ?_
    refine AllReadyH.cons (o := ⟨some 22, _, _, _, _, _⟩) rfl (fun K0 hK => ?_) ?_
    · go_simp
      refine ((TD _ (hL0.below hHeld.1) (h0.below hHeld.1) (hs0.below hHeld.1) (hy0.below hHeld.1)).out).mono ?_
      have H_l := (hHeld.2.1).lt
      have G_l := (hHeld.2.2.1).lt
      have J_l := (hHeld.2.2.2.1).lt
      rintro e v5 ⟨SA, Sn, Sc, DA, Dn, Dc, EA, En, Ec, rfl, S, hav, D, E, K'⟩
      have hav0 : ∀ g, g < w.heap.size → Av g B m → Av g SA Sn := fun g hg => hav g (Nat.lt_of_lt_of_le hg (Below.size hHeld.1))
      replace D := D.lower (Below.size hHeld.1)
      replace E := E.lower (Below.size hHeld.1)
      clear hav TD
      refine hK.out _ _ ⟨Below.then_ hHeld.1 K', hHeld.2.1.below K', hHeld.2.2.1.below K', hHeld.2.2.2.1.below K', trivial⟩ (fun hHeld' => ?_)
      clear hHeld K' hK K0
      clear H_l G_l J_l
      have hHeld := hHeld'
      clear hHeld'
      try simp only [Act.put, List.setIfInBounds_toArray, List.set_cons_zero, List.set_cons_succ]
      refine wpAnyH_take (i := 6) (oi := ⟨some 16, _, _, _, _, _⟩) (v := ?_) rfl (by kernel_rfl) (by kernel_rfl) (by kernel_rfl) (fun _ _ _ h => h) (Or.inl ⟨by rfl, ?_⟩) hHeld ?_
      rotate_left
      · intro ww hSw
        try dsimp only at hSw
        go_simp
        try with_reducible rfl
        try omega
      try simp only [Act.put, List.setIfInBounds_toArray, List.set_cons_zero, List.set_cons_succ]
      refine wpAnyH_take (i := 7) (oi := ⟨some 23, _, _, _, _, _⟩) (v := ?_) rfl (by kernel_rfl) (by kernel_rfl) (by kernel_rfl) (fun _ _ _ h => h) (Or.inl ⟨by rfl, ?_⟩) hHeld ?_
      rotate_left
      · intro ww hSw
        try dsimp only at hSw
        go_simp
        try with_reducible rfl
        try omega
      try simp only [Act.put, List.setIfInBounds_toArray, List.set_cons_zero, List.set_cons_succ]
      refine wpAnyH_take (i := 8) (oi := ⟨some 24, _, _, _, _, _⟩) (v := ?_) rfl (by kernel_rfl) (by kernel_rfl) (by kernel_rfl) (fun _ _ _ h => h) (Or.inl ⟨by rfl, ?_⟩) hHeld ?_
      rotate_left
      · intro ww hSw
        try dsimp only at hSw
        go_simp
        try with_reducible rfl
        try omega
      try simp only [Act.put, List.setIfInBounds_toArray, List.set_cons_zero, List.set_cons_succ]
      refine wpAnyH_ready (rs := [9]) (by kernel_rfl) (by simp) ?_
      refine AllReadyH.cons (o := ⟨some 11, _, _, _, _, _⟩) rfl (fun K0 hK => ?_) AllReadyH.nil
      have K' := below_alloc v5 (.cells #[.int .i64 0, .int .u32 0, .bool false, .slice none 0 0, .slice none 0 0] 34)
      have V := Bk.new v5 #[.int .i64 0, .int .u32 0, .bool false, .slice none 0 0, .slice none 0 0] 34
      have KS := hHeld.1.size
      have V_b : w.heap.size ≤ v5.heap.size := by omega
      have ne_H_V : gH ≠ v5.heap.size := by have := (hHeld.2.1).lt; omega
      have ne_G_V : gG ≠ v5.heap.size := by have := (hHeld.2.2.1).lt; omega
      have ne_J_V : gJ ≠ v5.heap.size := by have := (hHeld.2.2.2.1).lt; omega
      have S_V := S.av_old (Nat.le_refl v5.heap.size)
      have D_V := D.av_old (Nat.le_refl v5.heap.size)
      have E_V := E.av_old (Nat.le_refl v5.heap.size)
      clear KS
      go_simp
      refine hK.out _ _ ⟨Below.then_ hHeld.1 K', hHeld.2.1.below K', hHeld.2.2.1.below K', hHeld.2.2.2.1.below K', trivial⟩ (fun hHeld' => ?_)
      replace S := S.below K'
      replace D := D.below K'
      replace E := E.below K'
      clear hHeld hK K0 K'
      have hHeld := hHeld'
      clear hHeld'
      generalize v5.alloc (.cells #[.int .i64 0, .int .u32 0, .bool false, .slice none 0 0, .slice none 0 0] 34) = v6 at hHeld V S D E ⊢
      generalize v5.heap.size = gV at V V_b ne_H_V ne_G_V ne_J_V S_V D_V E_V ⊢
      try simp only [Act.put, List.setIfInBounds_toArray, List.set_cons_zero, List.set_cons_succ]
      refine wpAnyH_take (i := 10) (oi := ⟨some 10, _, _, _, _, _⟩) (v := ?_) rfl (by kernel_rfl) (by kernel_rfl) (by kernel_rfl) (fun _ _ _ h => h) (Or.inl ⟨by rfl, ?_⟩) hHeld ?_
      rotate_left
      · intro ww hSw
        try dsimp only at hSw
        go_simp
        try with_reducible rfl
        try omega
      try simp only [Act.put, List.setIfInBounds_toArray, List.set_cons_zero, List.set_cons_succ]
      refine wpAnyH_ready (rs := [11]) (by kernel_rfl) (by simp) ?_
      refine AllReadyH.cons (o := ⟨none, _, _, _, _, _⟩) rfl (fun K0 hK => ?_) AllReadyH.nil
      rw [if_pos (by rfl)]
      refine wp_store_row 34 (.tmp 11) (.tmp 24) rfl gV _ rfl (show _ = Value.agg #[.int .i64 r.2.1, .int .u32 r.2.2.1, .bool r.2.2.2.1, .slice DA Dn Dc, .slice EA En Ec] from rfl) _ _ V an_sz rfl (by simp [Value.oneCell']) ?_
      replace V := Bk.row V #[.int .i64 r.2.1, .int .u32 r.2.2.1, .bool r.2.2.2.1, .slice DA Dn Dc, .slice EA En Ec]
      refine hK.out _ _ ⟨below_setRow hHeld.1 V_b _, hHeld.2.1.row_far ne_H_V _, hHeld.2.2.1.row_far ne_G_V _, hHeld.2.2.2.1.row_far ne_J_V _, trivial⟩ (fun hHeld' => ?_)
      replace S := S.row_av S_V #[.int .i64 r.2.1, .int .u32 r.2.2.1, .bool r.2.2.2.1, .slice DA Dn Dc, .slice EA En Ec]
      replace D := D.row_av D_V #[.int .i64 r.2.1, .int .u32 r.2.2.1, .bool r.2.2.2.1, .slice DA Dn Dc, .slice EA En Ec]
      replace E := E.row_av E_V #[.int .i64 r.2.1, .int .u32 r.2.2.1, .bool r.2.2.2.1, .slice DA Dn Dc, .slice EA En Ec]
      clear hHeld hK K0
      have hHeld := hHeld'
      clear hHeld'
      generalize v6.setRow gV #[.int .i64 r.2.1, .int .u32 r.2.2.1, .bool r.2.2.2.1, .slice DA Dn Dc, .slice EA En Ec] = v7 at hHeld  S D E V ⊢
      try simp only [Act.put]
      refine wpAnyH_done (by kernel_rfl) ?_ _
      replace K := hHeld.1
      replace H := hHeld.2.1
      replace G := hHeld.2.2.1
      replace J := hHeld.2.2.2.1
      clear hHeld
      replace hL := hL0.below K
      replace h := h0.below K
      replace hs := hs0.below K
      replace hy := hy0.below K
      replace hA := hA0.below K
      replace hE := hE0.below K
      have hDn : Dn ≤ 65536 ∧ En ≤ 65536 := by have h1 := D.len; have h2 := E.len; have h3 := hrl.out; omega
      have T := Lib.hid (same_is (x := x) (y := r.2) hA hE D E (by omega) (by omega) hDn.1 hDn.2 (decide_eq_true hsb.out))
      have J_0 := J.at_ (v := .int .i64 x.1) 0 rfl
      have J_1 := J.at_ (v := .int .u32 x.2.1) 1 rfl
      have J_2 := J.at_ (v := .bool x.2.2.1) 2 rfl
      have J_3 := J.at_ (v := .slice P p1 p2) 3 rfl
      have J_4 := J.at_ (v := .slice Q q1 q2) 4 rfl
      have J_z := J.lt
      have V_0 := V.at_ (v := .int .i64 r.2.1) 0 rfl
      have V_1 := V.at_ (v := .int .u32 r.2.2.1) 1 rfl
      have V_2 := V.at_ (v := .bool r.2.2.2.1) 2 rfl
      have V_3 := V.at_ (v := .slice DA Dn Dc) 3 rfl
      have V_4 := V.at_ (v := .slice EA En Ec) 4 rfl
      have V_z := V.lt
      go_wp2_with fail
      refine T.out.mono ?_
      rintro e u8 ⟨rfl, K'⟩
      clear J_0 J_1 J_2 J_3 J_4 J_z
      clear V_0 V_1 V_2 V_3 V_4 V_z
      replace H := H.below K'
      replace G := G.below K'
      replace J := J.below K'
      replace V := V.below K'
      replace hL := hL.below K'
      replace h := h.below K'
      replace hs := hs.below K'
      replace hy := hy.below K'
      replace hA := hA.below K'
      replace hE := hE.below K'
      replace S := S.below K'
      replace D := D.below K'
      replace E := E.below K'
      replace K := Below.then_ K K'
      clear K'
      go_wp2
      go_ret2
      exact ⟨_, _, _, rfl, S, hav0, K⟩
    refine AllReadyH.cons (o := ⟨some 11, _, _, _, _, _⟩) rfl (fun K0 hK => ?_) AllReadyH.nil
    have K' := below_alloc v4 (.cells #[.int .i64 0, .int .u32 0, .bool false, .slice none 0 0, .slice none 0 0] 34)
    have V := Bk.new v4 #[.int .i64 0, .int .u32 0, .bool false, .slice none 0 0, .slice none 0 0] 34
    have KS := hHeld.1.size
    have V_b : w.heap.size ≤ v4.heap.size := by omega
    have ne_H_V : gH ≠ v4.heap.size := by have := (hHeld.2.1).lt; omega
    have ne_G_V : gG ≠ v4.heap.size := by have := (hHeld.2.2.1).lt; omega
    have ne_J_V : gJ ≠ v4.heap.size := by have := (hHeld.2.2.2.1).lt; omega
    clear KS
    go_simp
    refine hK.out _ _ ⟨Below.then_ hHeld.1 K', hHeld.2.1.below K', hHeld.2.2.1.below K', hHeld.2.2.2.1.below K', trivial⟩ (fun hHeld' => ?_)
    clear hHeld hK K0 K'
    have hHeld := hHeld'
    clear hHeld'
    generalize v4.alloc (.cells #[.int .i64 0, .int .u32 0, .bool false, .slice none 0 0, .slice none 0 0] 34) = v5 at hHeld V  ⊢
    generalize v4.heap.size = gV at V V_b ne_H_V ne_G_V ne_J_V  ⊢
    try simp only [Act.put, List.setIfInBounds_toArray, List.set_cons_zero, List.set_cons_succ]
    refine wpAnyH_ready (rs := [5]) (by kernel_rfl) (by simp) ?_
    refine AllReadyH.cons (o := ⟨some 22, _, _, _, _, _⟩) rfl (fun K0 hK => ?_) AllReadyH.nil
    go_simp
    refine ((TD _ (hL0.below hHeld.1) (h0.below hHeld.1) (hs0.below hHeld.1) (hy0.below hHeld.1)).out).mono ?_
    have H_l := (hHeld.2.1).lt
    have G_l := (hHeld.2.2.1).lt
    have J_l := (hHeld.2.2.2.1).lt
    have V_l := V.lt
    rintro e v6 ⟨SA, Sn, Sc, DA, Dn, Dc, EA, En, Ec, rfl, S, hav, D, E, K'⟩
    have S_V := hav gV V_l (hs0.av_old V_b)
    have D_V := D.av V_l
    have E_V := E.av V_l
    have hav0 : ∀ g, g < w.heap.size → Av g B m → Av g SA Sn := fun g hg => hav g (Nat.lt_of_lt_of_le hg (Below.size hHeld.1))
    replace D := D.lower (Below.size hHeld.1)
    replace E := E.lower (Below.size hHeld.1)
    clear hav TD
    refine hK.out _ _ ⟨Below.then_ hHeld.1 K', hHeld.2.1.below K', hHeld.2.2.1.below K', hHeld.2.2.2.1.below K', trivial⟩ (fun hHeld' => ?_)
    replace V := V.below K'
    clear hHeld K' hK K0
    clear H_l G_l J_l V_l
    have hHeld := hHeld'
    clear hHeld'
    try simp only [Act.put, List.setIfInBounds_toArray, List.set_cons_zero, List.set_cons_succ]
    refine wpAnyH_take (i := 6) (oi := ⟨some 16, _, _, _, _, _⟩) (v := ?_) rfl (by kernel_rfl) (by kernel_rfl) (by kernel_rfl) (fun _ _ _ h => h) (Or.inl ⟨by rfl, ?_⟩) hHeld ?_
    rotate_left
    · intro ww hSw
      try dsimp only at hSw
      go_simp
      try with_reducible rfl
      try omega
    try simp only [Act.put, List.setIfInBounds_toArray, List.set_cons_zero, List.set_cons_succ]
    refine wpAnyH_take (i := 7) (oi := ⟨some 23, _, _, _, _, _⟩) (v := ?_) rfl (by kernel_rfl) (by kernel_rfl) (by kernel_rfl) (fun _ _ _ h => h) (Or.inl ⟨by rfl, ?_⟩) hHeld ?_
    rotate_left
    · intro ww hSw
      try dsimp only at hSw
      go_simp
      try with_reducible rfl
      try omega
    try simp only [Act.put, List.setIfInBounds_toArray, List.set_cons_zero, List.set_cons_succ]
    refine wpAnyH_take (i := 8) (oi := ⟨some 24, _, _, _, _, _⟩) (v := ?_) rfl (by kernel_rfl) (by kernel_rfl) (by kernel_rfl) (fun _ _ _ h => h) (Or.inl ⟨by rfl, ?_⟩) hHeld ?_
    rotate_left
    · intro ww hSw
      try dsimp only at hSw
      go_simp
      try with_reducible rfl
      try omega
    try simp only [Act.put, List.setIfInBounds_toArray, List.set_cons_zero, List.set_cons_succ]
    refine wpAnyH_take (i := 10) (oi := ⟨some 10, _, _, _, _, _⟩) (v := ?_) rfl (by kernel_rfl) (by kernel_rfl) (by kernel_rfl) (fun _ _ _ h => h) (Or.inl ⟨by rfl, ?_⟩) hHeld ?_
    rotate_left
    · intro ww hSw
      try dsimp only at hSw
      go_simp
      try with_reducible rfl
      try omega
    try simp only [Act.put, List.setIfInBounds_toArray, List.set_cons_zero, List.set_cons_succ]
    refine wpAnyH_ready (rs := [11]) (by kernel_rfl) (by simp) ?_
    refine AllReadyH.cons (o := ⟨none, _, _, _, _, _⟩) rfl (fun K0 hK => ?_) AllReadyH.nil
    rw [if_pos (by rfl)]
    refine wp_store_row 34 (.tmp 11) (.tmp 24) rfl gV _ rfl (show _ = Value.agg #[.int .i64 r.2.1, .int .u32 r.2.2.1, .bool r.2.2.2.1, .slice DA Dn Dc, .slice EA En Ec] from rfl) _ _ V an_sz rfl (by simp [Value.oneCell']) ?_
    replace V := Bk.row V #[.int .i64 r.2.1, .int .u32 r.2.2.1, .bool r.2.2.2.1, .slice DA Dn Dc, .slice EA En Ec]
    refine hK.out _ _ ⟨below_setRow hHeld.1 V_b _, hHeld.2.1.row_far ne_H_V _, hHeld.2.2.1.row_far ne_G_V _, hHeld.2.2.2.1.row_far ne_J_V _, trivial⟩ (fun hHeld' => ?_)
    replace S := S.row_av S_V #[.int .i64 r.2.1, .int .u32 r.2.2.1, .bool r.2.2.2.1, .slice DA Dn Dc, .slice EA En Ec]
    replace D := D.row_av D_V #[.int .i64 r.2.1, .int .u32 r.2.2.1, .bool r.2.2.2.1, .slice DA Dn Dc, .slice EA En Ec]
    replace E := E.row_av E_V #[.int .i64 r.2.1, .int .u32 r.2.2.1, .bool r.2.2.2.1, .slice DA Dn Dc, .slice EA En Ec]
    clear hHeld hK K0
    have hHeld := hHeld'
    clear hHeld'
    generalize v6.setRow gV #[.int .i64 r.2.1, .int .u32 r.2.2.1, .bool r.2.2.2.1, .slice DA Dn Dc, .slice EA En Ec] = v7 at hHeld  V S D E ⊢
    try simp only [Act.put]
    refine wpAnyH_done (by kernel_rfl) ?_ _
    replace K := hHeld.1
    replace H := hHeld.2.1
    replace G := hHeld.2.2.1
    replace J := hHeld.2.2.2.1
    clear hHeld
    replace hL := hL0.below K
    replace h := h0.below K
    replace hs := hs0.below K
    replace hy := hy0.below K
    replace hA := hA0.below K
    replace hE := hE0.below K
    have hDn : Dn ≤ 65536 ∧ En ≤ 65536 := by have h1 := D.len; have h2 := E.len; have h3 := hrl.out; omega
    have T := Lib.hid (same_is (x := x) (y := r.2) hA hE D E (by omega) (by omega) hDn.1 hDn.2 (decide_eq_true hsb.out))
    have J_0 := J.at_ (v := .int .i64 x.1) 0 rfl
    have J_1 := J.at_ (v := .int .u32 x.2.1) 1 rfl
    have J_2 := J.at_ (v := .bool x.2.2.1) 2 rfl
    have J_3 := J.at_ (v := .slice P p1 p2) 3 rfl
    have J_4 := J.at_ (v := .slice Q q1 q2) 4 rfl
    have J_z := J.lt
    have V_0 := V.at_ (v := .int .i64 r.2.1) 0 rfl
    have V_1 := V.at_ (v := .int .u32 r.2.2.1) 1 rfl
    have V_2 := V.at_ (v := .bool r.2.2.2.1) 2 rfl
    have V_3 := V.at_ (v := .slice DA Dn Dc) 3 rfl
    have V_4 := V.at_ (v := .slice EA En Ec) 4 rfl
    have V_z := V.lt
    go_wp2_with fail
    refine T.out.mono ?_
    rintro e u8 ⟨rfl, K'⟩
    clear J_0 J_1 J_2 J_3 J_4 J_z
    clear V_0 V_1 V_2 V_3 V_4 V_z
    replace H := H.below K'
    replace G := G.below K'
    replace J := J.below K'
    replace V := V.below K'
    replace hL := hL.below K'
    replace h := h.below K'
    replace hs := hs.below K'
    replace hy := hy.below K'
    replace hA := hA.below K'
    replace hE := hE.below K'
    replace S := S.below K'
    replace D := D.below K'
    replace E := E.below K'
    replace K := Below.then_ K K'
    clear K'
    go_wp2
    go_ret2
    exact ⟨_, _, _, rfl, S, hav0, K⟩
  refine AllReadyH.cons (o := ⟨some 11, _, _, _, _, _⟩) rfl (fun K0 hK => ?_) AllReadyH.nil
  have K' := below_alloc v3 (.cells #[.int .i64 0, .int .u32 0, .bool false, .slice none 0 0, .slice none 0 0] 34)
  have V := Bk.new v3 #[.int .i64 0, .int .u32 0, .bool false, .slice none 0 0, .slice none 0 0] 34
  have KS := hHeld.1.size
  have V_b : w.heap.size ≤ v3.heap.size := by omega
  have ne_H_V : gH ≠ v3.heap.size := by have := (hHeld.2.1).lt; omega
  have ne_G_V : gG ≠ v3.heap.size := by have := (hHeld.2.2.1).lt; omega
  have ne_J_V : gJ ≠ v3.heap.size := by have := (hHeld.2.2.2.1).lt; omega
  clear KS
  go_simp
  refine hK.out _ _ ⟨Below.then_ hHeld.1 K', hHeld.2.1.below K', hHeld.2.2.1.below K', hHeld.2.2.2.1.below K', trivial⟩ (fun hHeld' => ?_)
  clear hHeld hK K0 K'
  have hHeld := hHeld'
  clear hHeld'
  generalize v3.alloc (.cells #[.int .i64 0, .int .u32 0, .bool false, .slice none 0 0, .slice none 0 0] 34) = v4 at hHeld V  ⊢
  generalize v3.heap.size = gV at V V_b ne_H_V ne_G_V ne_J_V  ⊢
  try simp only [Act.put, List.setIfInBounds_toArray, List.set_cons_zero, List.set_cons_succ]
  refine wpAnyH_ready (rs := [4]) (by kernel_rfl) (by simp) ?_
  refine AllReadyH.cons (o := ⟨some 21, _, _, _, _, _⟩) rfl (fun K0 hK => ?_) AllReadyH.nil
  go_simp
  refine ((TS _).out).mono ?_
  rintro e v5 ⟨rfl, K'⟩
  refine hK.out _ _ ⟨Below.then_ hHeld.1 K', hHeld.2.1.below K', hHeld.2.2.1.below K', hHeld.2.2.2.1.below K', trivial⟩ (fun hHeld' => ?_)
  replace V := V.below K'
  clear hHeld K' hK K0
  have hHeld := hHeld'
  clear hHeld'
  try simp only [Act.put, List.setIfInBounds_toArray, List.set_cons_zero, List.set_cons_succ]
  refine wpAnyH_ready (rs := [5]) (by kernel_rfl) (by simp) ?_
  refine AllReadyH.cons (o := ⟨some 22, _, _, _, _, _⟩) rfl (fun K0 hK => ?_) AllReadyH.nil
  go_simp
  refine ((TD _ (hL0.below hHeld.1) (h0.below hHeld.1) (hs0.below hHeld.1) (hy0.below hHeld.1)).out).mono ?_
  have H_l := (hHeld.2.1).lt
  have G_l := (hHeld.2.2.1).lt
  have J_l := (hHeld.2.2.2.1).lt
  have V_l := V.lt
  rintro e v6 ⟨SA, Sn, Sc, DA, Dn, Dc, EA, En, Ec, rfl, S, hav, D, E, K'⟩
  have S_V := hav gV V_l (hs0.av_old V_b)
  have D_V := D.av V_l
  have E_V := E.av V_l
  have hav0 : ∀ g, g < w.heap.size → Av g B m → Av g SA Sn := fun g hg => hav g (Nat.lt_of_lt_of_le hg (Below.size hHeld.1))
  replace D := D.lower (Below.size hHeld.1)
  replace E := E.lower (Below.size hHeld.1)
  clear hav TD
  refine hK.out _ _ ⟨Below.then_ hHeld.1 K', hHeld.2.1.below K', hHeld.2.2.1.below K', hHeld.2.2.2.1.below K', trivial⟩ (fun hHeld' => ?_)
  replace V := V.below K'
  clear hHeld K' hK K0
  clear H_l G_l J_l V_l
  have hHeld := hHeld'
  clear hHeld'
  try simp only [Act.put, List.setIfInBounds_toArray, List.set_cons_zero, List.set_cons_succ]
  refine wpAnyH_take (i := 6) (oi := ⟨some 16, _, _, _, _, _⟩) (v := ?_) rfl (by kernel_rfl) (by kernel_rfl) (by kernel_rfl) (fun _ _ _ h => h) (Or.inl ⟨by rfl, ?_⟩) hHeld ?_
  rotate_left
  · intro ww hSw
    try dsimp only at hSw
    go_simp
    try with_reducible rfl
    try omega
  try simp only [Act.put, List.setIfInBounds_toArray, List.set_cons_zero, List.set_cons_succ]
  refine wpAnyH_take (i := 7) (oi := ⟨some 23, _, _, _, _, _⟩) (v := ?_) rfl (by kernel_rfl) (by kernel_rfl) (by kernel_rfl) (fun _ _ _ h => h) (Or.inl ⟨by rfl, ?_⟩) hHeld ?_
  rotate_left
  · intro ww hSw
    try dsimp only at hSw
    go_simp
    try with_reducible rfl
    try omega
  try simp only [Act.put, List.setIfInBounds_toArray, List.set_cons_zero, List.set_cons_succ]
  refine wpAnyH_take (i := 8) (oi := ⟨some 24, _, _, _, _, _⟩) (v := ?_) rfl (by kernel_rfl) (by kernel_rfl) (by kernel_rfl) (fun _ _ _ h => h) (Or.inl ⟨by rfl, ?_⟩) hHeld ?_
  rotate_left
  · intro ww hSw
    try dsimp only at hSw
    go_simp
    try with_reducible rfl
    try omega
  try simp only [Act.put, List.setIfInBounds_toArray, List.set_cons_zero, List.set_cons_succ]
  refine wpAnyH_take (i := 10) (oi := ⟨some 10, _, _, _, _, _⟩) (v := ?_) rfl (by kernel_rfl) (by kernel_rfl) (by kernel_rfl) (fun _ _ _ h => h) (Or.inl ⟨by rfl, ?_⟩) hHeld ?_
  rotate_left
  · intro ww hSw
    try dsimp only at hSw
    go_simp
    try with_reducible rfl
    try omega
  try simp only [Act.put, List.setIfInBounds_toArray, List.set_cons_zero, List.set_cons_succ]
  refine wpAnyH_ready (rs := [11]) (by kernel_rfl) (by simp) ?_
  refine AllReadyH.cons (o := ⟨none, _, _, _, _, _⟩) rfl (fun K0 hK => ?_) AllReadyH.nil
  rw [if_pos (by rfl)]
  refine wp_store_row 34 (.tmp 11) (.tmp 24) rfl gV _ rfl (show _ = Value.agg #[.int .i64 r.2.1, .int .u32 r.2.2.1, .bool r.2.2.2.1, .slice DA Dn Dc, .slice EA En Ec] from rfl) _ _ V an_sz rfl (by simp [Value.oneCell']) ?_
  replace V := Bk.row V #[.int .i64 r.2.1, .int .u32 r.2.2.1, .bool r.2.2.2.1, .slice DA Dn Dc, .slice EA En Ec]
  refine hK.out _ _ ⟨below_setRow hHeld.1 V_b _, hHeld.2.1.row_far ne_H_V _, hHeld.2.2.1.row_far ne_G_V _, hHeld.2.2.2.1.row_far ne_J_V _, trivial⟩ (fun hHeld' => ?_)
  replace S := S.row_av S_V #[.int .i64 r.2.1, .int .u32 r.2.2.1, .bool r.2.2.2.1, .slice DA Dn Dc, .slice EA En Ec]
  replace D := D.row_av D_V #[.int .i64 r.2.1, .int .u32 r.2.2.1, .bool r.2.2.2.1, .slice DA Dn Dc, .slice EA En Ec]
  replace E := E.row_av E_V #[.int .i64 r.2.1, .int .u32 r.2.2.1, .bool r.2.2.2.1, .slice DA Dn Dc, .slice EA En Ec]
  clear hHeld hK K0
  have hHeld := hHeld'
  clear hHeld'
  generalize v6.setRow gV #[.int .i64 r.2.1, .int .u32 r.2.2.1, .bool r.2.2.2.1, .slice DA Dn Dc, .slice EA En Ec] = v7 at hHeld  V S D E ⊢
  try simp only [Act.put]
  refine wpAnyH_done (by kernel_rfl) ?_ _
  replace K := hHeld.1
  replace H := hHeld.2.1
  replace G := hHeld.2.2.1
  replace J := hHeld.2.2.2.1
  clear hHeld
  replace hL := hL0.below K
  replace h := h0.below K
  replace hs := hs0.below K
  replace hy := hy0.below K
  replace hA := hA0.below K
  replace hE := hE0.below K
  have hDn : Dn ≤ 65536 ∧ En ≤ 65536 := by have h1 := D.len; have h2 := E.len; have h3 := hrl.out; omega
  have T := Lib.hid (same_is (x := x) (y := r.2) hA hE D E (by omega) (by omega) hDn.1 hDn.2 (decide_eq_true hsb.out))
  have J_0 := J.at_ (v := .int .i64 x.1) 0 rfl
  have J_1 := J.at_ (v := .int .u32 x.2.1) 1 rfl
  have J_2 := J.at_ (v := .bool x.2.2.1) 2 rfl
  have J_3 := J.at_ (v := .slice P p1 p2) 3 rfl
  have J_4 := J.at_ (v := .slice Q q1 q2) 4 rfl
  have J_z := J.lt
  have V_0 := V.at_ (v := .int .i64 r.2.1) 0 rfl
  have V_1 := V.at_ (v := .int .u32 r.2.2.1) 1 rfl
  have V_2 := V.at_ (v := .bool r.2.2.2.1) 2 rfl
  have V_3 := V.at_ (v := .slice DA Dn Dc) 3 rfl
  have V_4 := V.at_ (v := .slice EA En Ec) 4 rfl
  have V_z := V.lt
  go_wp2_with fail
  refine T.out.mono ?_
  rintro e u8 ⟨rfl, K'⟩
  clear J_0 J_1 J_2 J_3 J_4 J_z
  clear V_0 V_1 V_2 V_3 V_4 V_z
  replace H := H.below K'
  replace G := G.below K'
  replace J := J.below K'
  replace V := V.below K'
  replace hL := hL.below K'
  replace h := h.below K'
  replace hs := hs.below K'
  replace hy := hy.below K'
  replace hA := hA.below K'
  replace hE := hE.below K'
  replace S := S.below K'
  replace D := D.below K'
  replace E := E.below K'
  replace K := Below.then_ K K'
  clear K'
  go_wp2
  go_ret2
  exact ⟨_, _, _, rfl, S, hav0, K⟩
set_option maxRecDepth 100000 in
set_option maxHeartbeats 4000000 in
theorem legal_do_no (hL0 : Laid w) (ha : a < 4294967296) (hM : Much a p M) (h0 : IS .i64 lo w A n c zs) (hn : n ≤ 65536) (hs0 : IS .i64 lo2 w B m d xs) (hm : m ≤ 60000) (hx : mayR M zs 0 xs = true) (hX : X < 4294967296) (hy0 : IS .u32 lo3 w C q f ys) (hq : q ≤ 60000) (hw : W32 ys) (hA0 : IS .u32 lo4 w P p1 p2 x.2.2.2.1) (hE0 : IS .i64 lo5 w Q q1 q2 x.2.2.2.2) (b1 : p1 ≤ 60000) (b2 : q1 ≤ 60000) (hp : putO k x = false) (hg : ¬ (k = 1 ∧ x.1 = 0)) {r : List Int × An} (hdo : stS a M zs xs k X ys x = r) (hsm : x ≠ r.2) :
    Calls Tryd.prog 13 #[.agg #[.int .u32 (a : Int), .int .i64 p, .slice A n c, .int .i64 sh, .int .i64 wo, .int .i64 qu, .int .i64 tr], .slice B m d, .agg #[.int .i64 k, .int .u32 (X : Int), .slice C q f], .agg #[.int .i64 x.1, .int .u32 x.2.1, .bool x.2.2.1, .slice P p1 p2, .slice Q q1 q2]] w (RetLB B m (xs, false) w) := by
  replace hw := Lib.hid hw
  have hsb := Lib.hid hsm
  have hrl : Hid (r.2.2.2.2.1.length ≤ m ∧ r.2.2.2.2.2.length ≤ q) := Lib.hid (by rw [← hdo, ← hs0.len, ← hy0.len]; exact stS_len k X ys x)
  replace hx := Lib.hid hx
  have hd2 : someS a M zs xs k X ys = r := by rw [← hdo]; unfold stS; rw [if_neg hg]
  have TS := fun w => Lib.hid (set_same (w := w) (X := X) (C := C) (q := q) (f := f) (P := P) (p1 := p1) (p2 := p2) (Q := Q) (q1 := q1) (q2 := q2) hg)
  have TD := fun w (hL0 : Laid w) (h0 : IS .i64 lo w A n c zs) (hs0 : IS .i64 lo2 w B m d xs) (hy0 : IS .u32 lo3 w C q f ys) => Lib.hid (show Calls _ _ _ w (RetSA B m r.1 r.2 w) from by rw [← hd2]; exact some_any (k := k) (X := X) (sh := sh) (wo := wo) (qu := qu) (tr := tr) hL0 ha hM h0 hn hs0 hm hx.out hX hy0 hq hw.out)
  clear hg hd2 hdo
  clear hsm
  have hL := hL0
  have h := h0
  have hs := hs0
  have hy := hy0
  have hA := hA0
  have hE := hE0
  have K := Below.refl w.heap.size w
  go_enter Tryd.func13, Tryd.ntmps13
  go_upto_region 1 with (fail)
  have KS := K.size
  replace hL := hL.below (below_alloc _ (.cells #[.int .u32 (a : Int), .int .i64 p, .slice A n c, .int .i64 sh, .int .i64 wo, .int .i64 qu, .int .i64 tr] 27))
  replace h := h.below (below_alloc _ (.cells #[.int .u32 (a : Int), .int .i64 p, .slice A n c, .int .i64 sh, .int .i64 wo, .int .i64 qu, .int .i64 tr] 27))
  replace hs := hs.below (below_alloc _ (.cells #[.int .u32 (a : Int), .int .i64 p, .slice A n c, .int .i64 sh, .int .i64 wo, .int .i64 qu, .int .i64 tr] 27))
  replace hy := hy.below (below_alloc _ (.cells #[.int .u32 (a : Int), .int .i64 p, .slice A n c, .int .i64 sh, .int .i64 wo, .int .i64 qu, .int .i64 tr] 27))
  replace hA := hA.below (below_alloc _ (.cells #[.int .u32 (a : Int), .int .i64 p, .slice A n c, .int .i64 sh, .int .i64 wo, .int .i64 qu, .int .i64 tr] 27))
  replace hE := hE.below (below_alloc _ (.cells #[.int .u32 (a : Int), .int .i64 p, .slice A n c, .int .i64 sh, .int .i64 wo, .int .i64 qu, .int .i64 tr] 27))
  replace K := Below.then_ K (below_alloc _ (.cells #[.int .u32 (a : Int), .int .i64 p, .slice A n c, .int .i64 sh, .int .i64 wo, .int .i64 qu, .int .i64 tr] 27))
  have H := Bk.new (w) #[.int .u32 (a : Int), .int .i64 p, .slice A n c, .int .i64 sh, .int .i64 wo, .int .i64 qu, .int .i64 tr] 27
  replace H := H.alloc (.cells #[.int .i64 k, .int .u32 (X : Int), .slice C q f] 30)
  replace hL := hL.below (below_alloc _ (.cells #[.int .i64 k, .int .u32 (X : Int), .slice C q f] 30))
  replace h := h.below (below_alloc _ (.cells #[.int .i64 k, .int .u32 (X : Int), .slice C q f] 30))
  replace hs := hs.below (below_alloc _ (.cells #[.int .i64 k, .int .u32 (X : Int), .slice C q f] 30))
  replace hy := hy.below (below_alloc _ (.cells #[.int .i64 k, .int .u32 (X : Int), .slice C q f] 30))
  replace hA := hA.below (below_alloc _ (.cells #[.int .i64 k, .int .u32 (X : Int), .slice C q f] 30))
  replace hE := hE.below (below_alloc _ (.cells #[.int .i64 k, .int .u32 (X : Int), .slice C q f] 30))
  replace K := Below.then_ K (below_alloc _ (.cells #[.int .i64 k, .int .u32 (X : Int), .slice C q f] 30))
  have G := Bk.new ((w).alloc (.cells #[.int .u32 (a : Int), .int .i64 p, .slice A n c, .int .i64 sh, .int .i64 wo, .int .i64 qu, .int .i64 tr] 27)) #[.int .i64 k, .int .u32 (X : Int), .slice C q f] 30
  replace H := H.alloc (.cells #[.int .i64 x.1, .int .u32 x.2.1, .bool x.2.2.1, .slice P p1 p2, .slice Q q1 q2] 34)
  replace G := G.alloc (.cells #[.int .i64 x.1, .int .u32 x.2.1, .bool x.2.2.1, .slice P p1 p2, .slice Q q1 q2] 34)
  replace hL := hL.below (below_alloc _ (.cells #[.int .i64 x.1, .int .u32 x.2.1, .bool x.2.2.1, .slice P p1 p2, .slice Q q1 q2] 34))
  replace h := h.below (below_alloc _ (.cells #[.int .i64 x.1, .int .u32 x.2.1, .bool x.2.2.1, .slice P p1 p2, .slice Q q1 q2] 34))
  replace hs := hs.below (below_alloc _ (.cells #[.int .i64 x.1, .int .u32 x.2.1, .bool x.2.2.1, .slice P p1 p2, .slice Q q1 q2] 34))
  replace hy := hy.below (below_alloc _ (.cells #[.int .i64 x.1, .int .u32 x.2.1, .bool x.2.2.1, .slice P p1 p2, .slice Q q1 q2] 34))
  replace hA := hA.below (below_alloc _ (.cells #[.int .i64 x.1, .int .u32 x.2.1, .bool x.2.2.1, .slice P p1 p2, .slice Q q1 q2] 34))
  replace hE := hE.below (below_alloc _ (.cells #[.int .i64 x.1, .int .u32 x.2.1, .bool x.2.2.1, .slice P p1 p2, .slice Q q1 q2] 34))
  replace K := Below.then_ K (below_alloc _ (.cells #[.int .i64 x.1, .int .u32 x.2.1, .bool x.2.2.1, .slice P p1 p2, .slice Q q1 q2] 34))
  have J := Bk.new (((w).alloc (.cells #[.int .u32 (a : Int), .int .i64 p, .slice A n c, .int .i64 sh, .int .i64 wo, .int .i64 qu, .int .i64 tr] 27)).alloc (.cells #[.int .i64 k, .int .u32 (X : Int), .slice C q f] 30)) #[.int .i64 x.1, .int .u32 x.2.1, .bool x.2.2.1, .slice P p1 p2, .slice Q q1 q2] 34
  try simp only [World.size_alloc] at H G J
  generalize (((w).alloc (.cells #[.int .u32 (a : Int), .int .i64 p, .slice A n c, .int .i64 sh, .int .i64 wo, .int .i64 qu, .int .i64 tr] 27)).alloc (.cells #[.int .i64 k, .int .u32 (X : Int), .slice C q f] 30)).alloc (.cells #[.int .i64 x.1, .int .u32 x.2.1, .bool x.2.2.1, .slice P p1 p2, .slice Q q1 q2] 34) = w1 at H G J hL h hs hy hA hE K ⊢
  generalize hgJ : w.heap.size + 1 + 1 = gJ at H G J ⊢
  generalize hgG : w.heap.size + 1 = gG at H G J ⊢
  generalize hgH : w.heap.size = gH at H G J ⊢
  have H_b : w.heap.size ≤ gH := by omega
  have G_b : w.heap.size ≤ gG := by omega
  have J_b : w.heap.size ≤ gJ := by omega
  have ne_H_G : gH ≠ gG := by omega
  have ne_H_J : gH ≠ gJ := by omega
  have ne_G_J : gG ≠ gJ := by omega
  clear KS hgH hgG hgJ 
  have T := put_any (k := k) (X := X) (C := C) (q := q) (f := f) hA hE b1 b2
  rw [hp] at T
  replace T := Lib.hid T
  have G_0 := G.at_ (v := .int .i64 k) 0 rfl
  have G_1 := G.at_ (v := .int .u32 (X : Int)) 1 rfl
  have G_2 := G.at_ (v := .slice C q f) 2 rfl
  have G_z := G.lt
  have J_0 := J.at_ (v := .int .i64 x.1) 0 rfl
  have J_1 := J.at_ (v := .int .u32 x.2.1) 1 rfl
  have J_2 := J.at_ (v := .bool x.2.2.1) 2 rfl
  have J_3 := J.at_ (v := .slice P p1 p2) 3 rfl
  have J_4 := J.at_ (v := .slice Q q1 q2) 4 rfl
  have J_z := J.lt
  go_wp2_with fail
  refine (T.out).mono ?_
  rintro e w2 ⟨rfl, K'⟩
  clear G_0 G_1 G_2 G_z
  clear J_0 J_1 J_2 J_3 J_4 J_z
  replace H := H.below K'
  replace G := G.below K'
  replace J := J.below K'
  replace hL := hL.below K'
  replace h := h.below K'
  replace hs := hs.below K'
  replace hy := hy.below K'
  replace hA := hA.below K'
  replace hE := hE.below K'
  replace K := Below.then_ K K'
  clear K'
  clear T
  go_wp2
  refine wp_region_held_drew (S := fun w' => Below w.heap.size w w' ∧ Bk w' gH 27 #[.int .u32 (a : Int), .int .i64 p, .slice A n c, .int .i64 sh, .int .i64 wo, .int .i64 qu, .int .i64 tr] ∧ Bk w' gG 30 #[.int .i64 k, .int .u32 (X : Int), .slice C q f] ∧ Bk w' gJ 34 #[.int .i64 x.1, .int .u32 x.2.1, .bool x.2.2.1, .slice P p1 p2, .slice Q q1 q2] ∧ True) (by kernel_rfl) ⟨K.drew, H.below ((Below.refl _ _).drew), G.below ((Below.refl _ _).drew), J.below ((Below.refl _ _).drew), trivial⟩ (fun hHeld => ?_)
  generalize w2.drew = v3 at hHeld  ⊢
  refine wpAnyH_take (i := 0) (oi := ⟨some 17, _, _, _, _, _⟩) (v := ?_) rfl (by kernel_rfl) (by kernel_rfl) (by kernel_rfl) (fun _ _ _ h => h) (Or.inl ⟨by rfl, ?_⟩) hHeld ?_
  rotate_left
  · intro ww hSw
    try dsimp only at hSw
    have H_0 := (hSw.2.1).at_ (v := .int .u32 (a : Int)) 0 rfl
    have H_1 := (hSw.2.1).at_ (v := .int .i64 p) 1 rfl
    have H_2 := (hSw.2.1).at_ (v := .slice A n c) 2 rfl
    have H_3 := (hSw.2.1).at_ (v := .int .i64 sh) 3 rfl
    have H_4 := (hSw.2.1).at_ (v := .int .i64 wo) 4 rfl
    have H_5 := (hSw.2.1).at_ (v := .int .i64 qu) 5 rfl
    have H_6 := (hSw.2.1).at_ (v := .int .i64 tr) 6 rfl
    have H_z := (hSw.2.1).lt
    have G_0 := (hSw.2.2.1).at_ (v := .int .i64 k) 0 rfl
    have G_1 := (hSw.2.2.1).at_ (v := .int .u32 (X : Int)) 1 rfl
    have G_2 := (hSw.2.2.1).at_ (v := .slice C q f) 2 rfl
    have G_z := (hSw.2.2.1).lt
    have J_0 := (hSw.2.2.2.1).at_ (v := .int .i64 x.1) 0 rfl
    have J_1 := (hSw.2.2.2.1).at_ (v := .int .u32 x.2.1) 1 rfl
    have J_2 := (hSw.2.2.2.1).at_ (v := .bool x.2.2.1) 2 rfl
    have J_3 := (hSw.2.2.2.1).at_ (v := .slice P p1 p2) 3 rfl
    have J_4 := (hSw.2.2.2.1).at_ (v := .slice Q q1 q2) 4 rfl
    have J_z := (hSw.2.2.2.1).lt
    go_simp
    try with_reducible rfl
    try omega
  try simp only [Act.put, List.setIfInBounds_toArray, List.set_cons_zero, List.set_cons_succ]
  refine wpAnyH_take (i := 1) (oi := ⟨some 18, _, _, _, _, _⟩) (v := ?_) rfl (by kernel_rfl) (by kernel_rfl) (by kernel_rfl) (fun _ _ _ h => h) (Or.inl ⟨by rfl, ?_⟩) hHeld ?_
  rotate_left
  · intro ww hSw
    try dsimp only at hSw
    go_simp
    try with_reducible rfl
    try omega
  try simp only [Act.put, List.setIfInBounds_toArray, List.set_cons_zero, List.set_cons_succ]
  refine wpAnyH_take (i := 2) (oi := ⟨some 19, _, _, _, _, _⟩) (v := ?_) rfl (by kernel_rfl) (by kernel_rfl) (by kernel_rfl) (fun _ _ _ h => h) (Or.inl ⟨by rfl, ?_⟩) hHeld ?_
  rotate_left
  · intro ww hSw
    try dsimp only at hSw
    have H_0 := (hSw.2.1).at_ (v := .int .u32 (a : Int)) 0 rfl
    have H_1 := (hSw.2.1).at_ (v := .int .i64 p) 1 rfl
    have H_2 := (hSw.2.1).at_ (v := .slice A n c) 2 rfl
    have H_3 := (hSw.2.1).at_ (v := .int .i64 sh) 3 rfl
    have H_4 := (hSw.2.1).at_ (v := .int .i64 wo) 4 rfl
    have H_5 := (hSw.2.1).at_ (v := .int .i64 qu) 5 rfl
    have H_6 := (hSw.2.1).at_ (v := .int .i64 tr) 6 rfl
    have H_z := (hSw.2.1).lt
    have G_0 := (hSw.2.2.1).at_ (v := .int .i64 k) 0 rfl
    have G_1 := (hSw.2.2.1).at_ (v := .int .u32 (X : Int)) 1 rfl
    have G_2 := (hSw.2.2.1).at_ (v := .slice C q f) 2 rfl
    have G_z := (hSw.2.2.1).lt
    have J_0 := (hSw.2.2.2.1).at_ (v := .int .i64 x.1) 0 rfl
    have J_1 := (hSw.2.2.2.1).at_ (v := .int .u32 x.2.1) 1 rfl
    have J_2 := (hSw.2.2.2.1).at_ (v := .bool x.2.2.1) 2 rfl
    have J_3 := (hSw.2.2.2.1).at_ (v := .slice P p1 p2) 3 rfl
    have J_4 := (hSw.2.2.2.1).at_ (v := .slice Q q1 q2) 4 rfl
    have J_z := (hSw.2.2.2.1).lt
    go_simp
    try with_reducible rfl
    try omega
  try simp only [Act.put, List.setIfInBounds_toArray, List.set_cons_zero, List.set_cons_succ]
  refine wpAnyH_take (i := 3) (oi := ⟨some 20, _, _, _, _, _⟩) (v := ?_) rfl (by kernel_rfl) (by kernel_rfl) (by kernel_rfl) (fun _ _ _ h => h) (Or.inl ⟨by rfl, ?_⟩) hHeld ?_
  rotate_left
  · intro ww hSw
    try dsimp only at hSw
    have H_0 := (hSw.2.1).at_ (v := .int .u32 (a : Int)) 0 rfl
    have H_1 := (hSw.2.1).at_ (v := .int .i64 p) 1 rfl
    have H_2 := (hSw.2.1).at_ (v := .slice A n c) 2 rfl
    have H_3 := (hSw.2.1).at_ (v := .int .i64 sh) 3 rfl
    have H_4 := (hSw.2.1).at_ (v := .int .i64 wo) 4 rfl
    have H_5 := (hSw.2.1).at_ (v := .int .i64 qu) 5 rfl
    have H_6 := (hSw.2.1).at_ (v := .int .i64 tr) 6 rfl
    have H_z := (hSw.2.1).lt
    have G_0 := (hSw.2.2.1).at_ (v := .int .i64 k) 0 rfl
    have G_1 := (hSw.2.2.1).at_ (v := .int .u32 (X : Int)) 1 rfl
    have G_2 := (hSw.2.2.1).at_ (v := .slice C q f) 2 rfl
    have G_z := (hSw.2.2.1).lt
    have J_0 := (hSw.2.2.2.1).at_ (v := .int .i64 x.1) 0 rfl
    have J_1 := (hSw.2.2.2.1).at_ (v := .int .u32 x.2.1) 1 rfl
    have J_2 := (hSw.2.2.2.1).at_ (v := .bool x.2.2.1) 2 rfl
    have J_3 := (hSw.2.2.2.1).at_ (v := .slice P p1 p2) 3 rfl
    have J_4 := (hSw.2.2.2.1).at_ (v := .slice Q q1 q2) 4 rfl
    have J_z := (hSw.2.2.2.1).lt
    go_simp
    try with_reducible rfl
    try omega
  try simp only [Act.put, List.setIfInBounds_toArray, List.set_cons_zero, List.set_cons_succ]
  refine wpAnyH_ready (rs := [4, 9]) (by kernel_rfl) (by simp) ?_
  refine AllReadyH.cons (o := ⟨some 21, _, _, _, _, _⟩) rfl (fun K0 hK => ?_) ?_
  · go_simp
    refine ((TS _).out).mono ?_
    rintro e v4 ⟨rfl, K'⟩
    refine hK.out _ _ ⟨Below.then_ hHeld.1 K', hHeld.2.1.below K', hHeld.2.2.1.below K', hHeld.2.2.2.1.below K', trivial⟩ (fun hHeld' => ?_)
    clear hHeld K' hK K0
    have hHeld := hHeld'
    clear hHeld'
    try simp only [Act.put, List.setIfInBounds_toArray, List.set_cons_zero, List.set_cons_succ]
    refine wpAnyH_ready (rs := [5, 9]) (by kernel_rfl) (by simp) ?_
    refine AllReadyH.cons (o := ⟨some 22, _, _, _, _, _⟩) rfl (fun K0 hK => ?_) ?_
    · go_simp
      refine ((TD _ (hL0.below hHeld.1) (h0.below hHeld.1) (hs0.below hHeld.1) (hy0.below hHeld.1)).out).mono ?_
      have H_l := (hHeld.2.1).lt
      have G_l := (hHeld.2.2.1).lt
      have J_l := (hHeld.2.2.2.1).lt
      rintro e v5 ⟨SA, Sn, Sc, DA, Dn, Dc, EA, En, Ec, rfl, S, hav, D, E, K'⟩
      have hav0 : ∀ g, g < w.heap.size → Av g B m → Av g SA Sn := fun g hg => hav g (Nat.lt_of_lt_of_le hg (Below.size hHeld.1))
      replace D := D.lower (Below.size hHeld.1)
      replace E := E.lower (Below.size hHeld.1)
      clear hav TD
      refine hK.out _ _ ⟨Below.then_ hHeld.1 K', hHeld.2.1.below K', hHeld.2.2.1.below K', hHeld.2.2.2.1.below K', trivial⟩ (fun hHeld' => ?_)
      clear hHeld K' hK K0
      clear H_l G_l J_l
      have hHeld := hHeld'
      clear hHeld'
      try simp only [Act.put, List.setIfInBounds_toArray, List.set_cons_zero, List.set_cons_succ]
      refine wpAnyH_take (i := 6) (oi := ⟨some 16, _, _, _, _, _⟩) (v := ?_) rfl (by kernel_rfl) (by kernel_rfl) (by kernel_rfl) (fun _ _ _ h => h) (Or.inl ⟨by rfl, ?_⟩) hHeld ?_
      rotate_left
      · intro ww hSw
        try dsimp only at hSw
        go_simp
        try with_reducible rfl
        try omega
      try simp only [Act.put, List.setIfInBounds_toArray, List.set_cons_zero, List.set_cons_succ]
      refine wpAnyH_take (i := 7) (oi := ⟨some 23, _, _, _, _, _⟩) (v := ?_) rfl (by kernel_rfl) (by kernel_rfl) (by kernel_rfl) (fun _ _ _ h => h) (Or.inl ⟨by rfl, ?_⟩) hHeld ?_
      rotate_left
      · intro ww hSw
        try dsimp only at hSw
        go_simp
        try with_reducible rfl
        try omega
      try simp only [Act.put, List.setIfInBounds_toArray, List.set_cons_zero, List.set_cons_succ]
      refine wpAnyH_take (i := 8) (oi := ⟨some 24, _, _, _, _, _⟩) (v := ?_) rfl (by kernel_rfl) (by kernel_rfl) (by kernel_rfl) (fun _ _ _ h => h) (Or.inl ⟨by rfl, ?_⟩) hHeld ?_
      rotate_left
      · intro ww hSw
        try dsimp only at hSw
        go_simp
        try with_reducible rfl
        try omega
      try simp only [Act.put, List.setIfInBounds_toArray, List.set_cons_zero, List.set_cons_succ]
      refine wpAnyH_ready (rs := [9]) (by kernel_rfl) (by simp) ?_
      refine AllReadyH.cons (o := ⟨some 11, _, _, _, _, _⟩) rfl (fun K0 hK => ?_) AllReadyH.nil
      have K' := below_alloc v5 (.cells #[.int .i64 0, .int .u32 0, .bool false, .slice none 0 0, .slice none 0 0] 34)
      have V := Bk.new v5 #[.int .i64 0, .int .u32 0, .bool false, .slice none 0 0, .slice none 0 0] 34
      have KS := hHeld.1.size
      have V_b : w.heap.size ≤ v5.heap.size := by omega
      have ne_H_V : gH ≠ v5.heap.size := by have := (hHeld.2.1).lt; omega
      have ne_G_V : gG ≠ v5.heap.size := by have := (hHeld.2.2.1).lt; omega
      have ne_J_V : gJ ≠ v5.heap.size := by have := (hHeld.2.2.2.1).lt; omega
      have S_V := S.av_old (Nat.le_refl v5.heap.size)
      have D_V := D.av_old (Nat.le_refl v5.heap.size)
      have E_V := E.av_old (Nat.le_refl v5.heap.size)
      clear KS
      go_simp
      refine hK.out _ _ ⟨Below.then_ hHeld.1 K', hHeld.2.1.below K', hHeld.2.2.1.below K', hHeld.2.2.2.1.below K', trivial⟩ (fun hHeld' => ?_)
      replace S := S.below K'
      replace D := D.below K'
      replace E := E.below K'
      clear hHeld hK K0 K'
      have hHeld := hHeld'
      clear hHeld'
      generalize v5.alloc (.cells #[.int .i64 0, .int .u32 0, .bool false, .slice none 0 0, .slice none 0 0] 34) = v6 at hHeld V S D E ⊢
      generalize v5.heap.size = gV at V V_b ne_H_V ne_G_V ne_J_V S_V D_V E_V ⊢
      try simp only [Act.put, List.setIfInBounds_toArray, List.set_cons_zero, List.set_cons_succ]
      refine wpAnyH_take (i := 10) (oi := ⟨some 10, _, _, _, _, _⟩) (v := ?_) rfl (by kernel_rfl) (by kernel_rfl) (by kernel_rfl) (fun _ _ _ h => h) (Or.inl ⟨by rfl, ?_⟩) hHeld ?_
      rotate_left
      · intro ww hSw
        try dsimp only at hSw
        go_simp
        try with_reducible rfl
        try omega
      try simp only [Act.put, List.setIfInBounds_toArray, List.set_cons_zero, List.set_cons_succ]
      refine wpAnyH_ready (rs := [11]) (by kernel_rfl) (by simp) ?_
      refine AllReadyH.cons (o := ⟨none, _, _, _, _, _⟩) rfl (fun K0 hK => ?_) AllReadyH.nil
      rw [if_pos (by rfl)]
      refine wp_store_row 34 (.tmp 11) (.tmp 24) rfl gV _ rfl (show _ = Value.agg #[.int .i64 r.2.1, .int .u32 r.2.2.1, .bool r.2.2.2.1, .slice DA Dn Dc, .slice EA En Ec] from rfl) _ _ V an_sz rfl (by simp [Value.oneCell']) ?_
      replace V := Bk.row V #[.int .i64 r.2.1, .int .u32 r.2.2.1, .bool r.2.2.2.1, .slice DA Dn Dc, .slice EA En Ec]
      refine hK.out _ _ ⟨below_setRow hHeld.1 V_b _, hHeld.2.1.row_far ne_H_V _, hHeld.2.2.1.row_far ne_G_V _, hHeld.2.2.2.1.row_far ne_J_V _, trivial⟩ (fun hHeld' => ?_)
      replace S := S.row_av S_V #[.int .i64 r.2.1, .int .u32 r.2.2.1, .bool r.2.2.2.1, .slice DA Dn Dc, .slice EA En Ec]
      replace D := D.row_av D_V #[.int .i64 r.2.1, .int .u32 r.2.2.1, .bool r.2.2.2.1, .slice DA Dn Dc, .slice EA En Ec]
      replace E := E.row_av E_V #[.int .i64 r.2.1, .int .u32 r.2.2.1, .bool r.2.2.2.1, .slice DA Dn Dc, .slice EA En Ec]
      clear hHeld hK K0
      have hHeld := hHeld'
      clear hHeld'
      generalize v6.setRow gV #[.int .i64 r.2.1, .int .u32 r.2.2.1, .bool r.2.2.2.1, .slice DA Dn Dc, .slice EA En Ec] = v7 at hHeld  S D E V ⊢
      try simp only [Act.put]
      refine wpAnyH_done (by kernel_rfl) ?_ _
      replace K := hHeld.1
      replace H := hHeld.2.1
      replace G := hHeld.2.2.1
      replace J := hHeld.2.2.2.1
      clear hHeld
      replace hL := hL0.below K
      replace h := h0.below K
      replace hs := hs0.below K
      replace hy := hy0.below K
      replace hA := hA0.below K
      replace hE := hE0.below K
      have hDn : Dn ≤ 65536 ∧ En ≤ 65536 := by have h1 := D.len; have h2 := E.len; have h3 := hrl.out; omega
      have T := Lib.hid (same_is (x := x) (y := r.2) hA hE D E (by omega) (by omega) hDn.1 hDn.2 (decide_eq_false hsb.out))
      have J_0 := J.at_ (v := .int .i64 x.1) 0 rfl
      have J_1 := J.at_ (v := .int .u32 x.2.1) 1 rfl
      have J_2 := J.at_ (v := .bool x.2.2.1) 2 rfl
      have J_3 := J.at_ (v := .slice P p1 p2) 3 rfl
      have J_4 := J.at_ (v := .slice Q q1 q2) 4 rfl
      have J_z := J.lt
      have V_0 := V.at_ (v := .int .i64 r.2.1) 0 rfl
      have V_1 := V.at_ (v := .int .u32 r.2.2.1) 1 rfl
      have V_2 := V.at_ (v := .bool r.2.2.2.1) 2 rfl
      have V_3 := V.at_ (v := .slice DA Dn Dc) 3 rfl
      have V_4 := V.at_ (v := .slice EA En Ec) 4 rfl
      have V_z := V.lt
      go_wp2_with fail
      refine T.out.mono ?_
      rintro e u8 ⟨rfl, K'⟩
      clear J_0 J_1 J_2 J_3 J_4 J_z
      clear V_0 V_1 V_2 V_3 V_4 V_z
      replace H := H.below K'
      replace G := G.below K'
      replace J := J.below K'
      replace V := V.below K'
      replace hL := hL.below K'
      replace h := h.below K'
      replace hs := hs.below K'
      replace hy := hy.below K'
      replace hA := hA.below K'
      replace hE := hE.below K'
      replace S := S.below K'
      replace D := D.below K'
      replace E := E.below K'
      replace K := Below.then_ K K'
      clear K'
      go_wp2
      go_ret2
      exact ⟨_, _, _, rfl, hs.lower (Nat.zero_le _), (fun _ _ h => h), K⟩
    refine AllReadyH.cons (o := ⟨some 11, _, _, _, _, _⟩) rfl (fun K0 hK => ?_) AllReadyH.nil
    have K' := below_alloc v4 (.cells #[.int .i64 0, .int .u32 0, .bool false, .slice none 0 0, .slice none 0 0] 34)
    have V := Bk.new v4 #[.int .i64 0, .int .u32 0, .bool false, .slice none 0 0, .slice none 0 0] 34
    have KS := hHeld.1.size
    have V_b : w.heap.size ≤ v4.heap.size := by omega
    have ne_H_V : gH ≠ v4.heap.size := by have := (hHeld.2.1).lt; omega
    have ne_G_V : gG ≠ v4.heap.size := by have := (hHeld.2.2.1).lt; omega
    have ne_J_V : gJ ≠ v4.heap.size := by have := (hHeld.2.2.2.1).lt; omega
    clear KS
    go_simp
    refine hK.out _ _ ⟨Below.then_ hHeld.1 K', hHeld.2.1.below K', hHeld.2.2.1.below K', hHeld.2.2.2.1.below K', trivial⟩ (fun hHeld' => ?_)
    clear hHeld hK K0 K'
    have hHeld := hHeld'
    clear hHeld'
    generalize v4.alloc (.cells #[.int .i64 0, .int .u32 0, .bool false, .slice none 0 0, .slice none 0 0] 34) = v5 at hHeld V  ⊢
    generalize v4.heap.size = gV at V V_b ne_H_V ne_G_V ne_J_V  ⊢
    try simp only [Act.put, List.setIfInBounds_toArray, List.set_cons_zero, List.set_cons_succ]
    refine wpAnyH_ready (rs := [5]) (by kernel_rfl) (by simp) ?_
    refine AllReadyH.cons (o := ⟨some 22, _, _, _, _, _⟩) rfl (fun K0 hK => ?_) AllReadyH.nil
    go_simp
    refine ((TD _ (hL0.below hHeld.1) (h0.below hHeld.1) (hs0.below hHeld.1) (hy0.below hHeld.1)).out).mono ?_
    have H_l := (hHeld.2.1).lt
    have G_l := (hHeld.2.2.1).lt
    have J_l := (hHeld.2.2.2.1).lt
    have V_l := V.lt
    rintro e v6 ⟨SA, Sn, Sc, DA, Dn, Dc, EA, En, Ec, rfl, S, hav, D, E, K'⟩
    have S_V := hav gV V_l (hs0.av_old V_b)
    have D_V := D.av V_l
    have E_V := E.av V_l
    have hav0 : ∀ g, g < w.heap.size → Av g B m → Av g SA Sn := fun g hg => hav g (Nat.lt_of_lt_of_le hg (Below.size hHeld.1))
    replace D := D.lower (Below.size hHeld.1)
    replace E := E.lower (Below.size hHeld.1)
    clear hav TD
    refine hK.out _ _ ⟨Below.then_ hHeld.1 K', hHeld.2.1.below K', hHeld.2.2.1.below K', hHeld.2.2.2.1.below K', trivial⟩ (fun hHeld' => ?_)
    replace V := V.below K'
    clear hHeld K' hK K0
    clear H_l G_l J_l V_l
    have hHeld := hHeld'
    clear hHeld'
    try simp only [Act.put, List.setIfInBounds_toArray, List.set_cons_zero, List.set_cons_succ]
    refine wpAnyH_take (i := 6) (oi := ⟨some 16, _, _, _, _, _⟩) (v := ?_) rfl (by kernel_rfl) (by kernel_rfl) (by kernel_rfl) (fun _ _ _ h => h) (Or.inl ⟨by rfl, ?_⟩) hHeld ?_
    rotate_left
    · intro ww hSw
      try dsimp only at hSw
      go_simp
      try with_reducible rfl
      try omega
    try simp only [Act.put, List.setIfInBounds_toArray, List.set_cons_zero, List.set_cons_succ]
    refine wpAnyH_take (i := 7) (oi := ⟨some 23, _, _, _, _, _⟩) (v := ?_) rfl (by kernel_rfl) (by kernel_rfl) (by kernel_rfl) (fun _ _ _ h => h) (Or.inl ⟨by rfl, ?_⟩) hHeld ?_
    rotate_left
    · intro ww hSw
      try dsimp only at hSw
      go_simp
      try with_reducible rfl
      try omega
    try simp only [Act.put, List.setIfInBounds_toArray, List.set_cons_zero, List.set_cons_succ]
    refine wpAnyH_take (i := 8) (oi := ⟨some 24, _, _, _, _, _⟩) (v := ?_) rfl (by kernel_rfl) (by kernel_rfl) (by kernel_rfl) (fun _ _ _ h => h) (Or.inl ⟨by rfl, ?_⟩) hHeld ?_
    rotate_left
    · intro ww hSw
      try dsimp only at hSw
      go_simp
      try with_reducible rfl
      try omega
    try simp only [Act.put, List.setIfInBounds_toArray, List.set_cons_zero, List.set_cons_succ]
    refine wpAnyH_take (i := 10) (oi := ⟨some 10, _, _, _, _, _⟩) (v := ?_) rfl (by kernel_rfl) (by kernel_rfl) (by kernel_rfl) (fun _ _ _ h => h) (Or.inl ⟨by rfl, ?_⟩) hHeld ?_
    rotate_left
    · intro ww hSw
      try dsimp only at hSw
      go_simp
      try with_reducible rfl
      try omega
    try simp only [Act.put, List.setIfInBounds_toArray, List.set_cons_zero, List.set_cons_succ]
    refine wpAnyH_ready (rs := [11]) (by kernel_rfl) (by simp) ?_
    refine AllReadyH.cons (o := ⟨none, _, _, _, _, _⟩) rfl (fun K0 hK => ?_) AllReadyH.nil
    rw [if_pos (by rfl)]
    refine wp_store_row 34 (.tmp 11) (.tmp 24) rfl gV _ rfl (show _ = Value.agg #[.int .i64 r.2.1, .int .u32 r.2.2.1, .bool r.2.2.2.1, .slice DA Dn Dc, .slice EA En Ec] from rfl) _ _ V an_sz rfl (by simp [Value.oneCell']) ?_
    replace V := Bk.row V #[.int .i64 r.2.1, .int .u32 r.2.2.1, .bool r.2.2.2.1, .slice DA Dn Dc, .slice EA En Ec]
    refine hK.out _ _ ⟨below_setRow hHeld.1 V_b _, hHeld.2.1.row_far ne_H_V _, hHeld.2.2.1.row_far ne_G_V _, hHeld.2.2.2.1.row_far ne_J_V _, trivial⟩ (fun hHeld' => ?_)
    replace S := S.row_av S_V #[.int .i64 r.2.1, .int .u32 r.2.2.1, .bool r.2.2.2.1, .slice DA Dn Dc, .slice EA En Ec]
    replace D := D.row_av D_V #[.int .i64 r.2.1, .int .u32 r.2.2.1, .bool r.2.2.2.1, .slice DA Dn Dc, .slice EA En Ec]
    replace E := E.row_av E_V #[.int .i64 r.2.1, .int .u32 r.2.2.1, .bool r.2.2.2.1, .slice DA Dn Dc, .slice EA En Ec]
    clear hHeld hK K0
    have hHeld := hHeld'
    clear hHeld'
    generalize v6.setRow gV #[.int .i64 r.2.1, .int .u32 r.2.2.1, .bool r.2.2.2.1, .slice DA Dn Dc, .slice EA En Ec] = v7 at hHeld  V S D E ⊢
    try simp only [Act.put]
    refine wpAnyH_done (by kernel_rfl) ?_ _
    replace K := hHeld.1
    replace H := hHeld.2.1
    replace G := hHeld.2.2.1
    replace J := hHeld.2.2.2.1
    clear hHeld
    replace hL := hL0.below K
    replace h := h0.below K
    replace hs := hs0.below K
    replace hy := hy0.below K
    replace hA := hA0.below K
    replace hE := hE0.below K
    have hDn : Dn ≤ 65536 ∧ En ≤ 65536 := by have h1 := D.len; have h2 := E.len; have h3 := hrl.out; omega
    have T := Lib.hid (same_is (x := x) (y := r.2) hA hE D E (by omega) (by omega) hDn.1 hDn.2 (decide_eq_false hsb.out))
    have J_0 := J.at_ (v := .int .i64 x.1) 0 rfl
    have J_1 := J.at_ (v := .int .u32 x.2.1) 1 rfl
    have J_2 := J.at_ (v := .bool x.2.2.1) 2 rfl
    have J_3 := J.at_ (v := .slice P p1 p2) 3 rfl
    have J_4 := J.at_ (v := .slice Q q1 q2) 4 rfl
    have J_z := J.lt
    have V_0 := V.at_ (v := .int .i64 r.2.1) 0 rfl
    have V_1 := V.at_ (v := .int .u32 r.2.2.1) 1 rfl
    have V_2 := V.at_ (v := .bool r.2.2.2.1) 2 rfl
    have V_3 := V.at_ (v := .slice DA Dn Dc) 3 rfl
    have V_4 := V.at_ (v := .slice EA En Ec) 4 rfl
    have V_z := V.lt
    go_wp2_with fail
    refine T.out.mono ?_
    rintro e u8 ⟨rfl, K'⟩
    clear J_0 J_1 J_2 J_3 J_4 J_z
    clear V_0 V_1 V_2 V_3 V_4 V_z
    replace H := H.below K'
    replace G := G.below K'
    replace J := J.below K'
    replace V := V.below K'
    replace hL := hL.below K'
    replace h := h.below K'
    replace hs := hs.below K'
    replace hy := hy.below K'
    replace hA := hA.below K'
    replace hE := hE.below K'
    replace S := S.below K'
    replace D := D.below K'
    replace E := E.below K'
    replace K := Below.then_ K K'
    clear K'
    go_wp2
    go_ret2
    exact ⟨_, _, _, rfl, hs.lower (Nat.zero_le _), (fun _ _ h => h), K⟩
  refine AllReadyH.cons (o := ⟨some 11, _, _, _, _, _⟩) rfl (fun K0 hK => ?_) AllReadyH.nil
  have K' := below_alloc v3 (.cells #[.int .i64 0, .int .u32 0, .bool false, .slice none 0 0, .slice none 0 0] 34)
  have V := Bk.new v3 #[.int .i64 0, .int .u32 0, .bool false, .slice none 0 0, .slice none 0 0] 34
  have KS := hHeld.1.size
  have V_b : w.heap.size ≤ v3.heap.size := by omega
  have ne_H_V : gH ≠ v3.heap.size := by have := (hHeld.2.1).lt; omega
  have ne_G_V : gG ≠ v3.heap.size := by have := (hHeld.2.2.1).lt; omega
  have ne_J_V : gJ ≠ v3.heap.size := by have := (hHeld.2.2.2.1).lt; omega
  clear KS
  go_simp
  refine hK.out _ _ ⟨Below.then_ hHeld.1 K', hHeld.2.1.below K', hHeld.2.2.1.below K', hHeld.2.2.2.1.below K', trivial⟩ (fun hHeld' => ?_)
  clear hHeld hK K0 K'
  have hHeld := hHeld'
  clear hHeld'
  generalize v3.alloc (.cells #[.int .i64 0, .int .u32 0, .bool false, .slice none 0 0, .slice none 0 0] 34) = v4 at hHeld V  ⊢
  generalize v3.heap.size = gV at V V_b ne_H_V ne_G_V ne_J_V  ⊢
  try simp only [Act.put, List.setIfInBounds_toArray, List.set_cons_zero, List.set_cons_succ]
  refine wpAnyH_ready (rs := [4]) (by kernel_rfl) (by simp) ?_
  refine AllReadyH.cons (o := ⟨some 21, _, _, _, _, _⟩) rfl (fun K0 hK => ?_) AllReadyH.nil
  go_simp
  refine ((TS _).out).mono ?_
  rintro e v5 ⟨rfl, K'⟩
  refine hK.out _ _ ⟨Below.then_ hHeld.1 K', hHeld.2.1.below K', hHeld.2.2.1.below K', hHeld.2.2.2.1.below K', trivial⟩ (fun hHeld' => ?_)
  replace V := V.below K'
  clear hHeld K' hK K0
  have hHeld := hHeld'
  clear hHeld'
  try simp only [Act.put, List.setIfInBounds_toArray, List.set_cons_zero, List.set_cons_succ]
  refine wpAnyH_ready (rs := [5]) (by kernel_rfl) (by simp) ?_
  refine AllReadyH.cons (o := ⟨some 22, _, _, _, _, _⟩) rfl (fun K0 hK => ?_) AllReadyH.nil
  go_simp
  refine ((TD _ (hL0.below hHeld.1) (h0.below hHeld.1) (hs0.below hHeld.1) (hy0.below hHeld.1)).out).mono ?_
  have H_l := (hHeld.2.1).lt
  have G_l := (hHeld.2.2.1).lt
  have J_l := (hHeld.2.2.2.1).lt
  have V_l := V.lt
  rintro e v6 ⟨SA, Sn, Sc, DA, Dn, Dc, EA, En, Ec, rfl, S, hav, D, E, K'⟩
  have S_V := hav gV V_l (hs0.av_old V_b)
  have D_V := D.av V_l
  have E_V := E.av V_l
  have hav0 : ∀ g, g < w.heap.size → Av g B m → Av g SA Sn := fun g hg => hav g (Nat.lt_of_lt_of_le hg (Below.size hHeld.1))
  replace D := D.lower (Below.size hHeld.1)
  replace E := E.lower (Below.size hHeld.1)
  clear hav TD
  refine hK.out _ _ ⟨Below.then_ hHeld.1 K', hHeld.2.1.below K', hHeld.2.2.1.below K', hHeld.2.2.2.1.below K', trivial⟩ (fun hHeld' => ?_)
  replace V := V.below K'
  clear hHeld K' hK K0
  clear H_l G_l J_l V_l
  have hHeld := hHeld'
  clear hHeld'
  try simp only [Act.put, List.setIfInBounds_toArray, List.set_cons_zero, List.set_cons_succ]
  refine wpAnyH_take (i := 6) (oi := ⟨some 16, _, _, _, _, _⟩) (v := ?_) rfl (by kernel_rfl) (by kernel_rfl) (by kernel_rfl) (fun _ _ _ h => h) (Or.inl ⟨by rfl, ?_⟩) hHeld ?_
  rotate_left
  · intro ww hSw
    try dsimp only at hSw
    go_simp
    try with_reducible rfl
    try omega
  try simp only [Act.put, List.setIfInBounds_toArray, List.set_cons_zero, List.set_cons_succ]
  refine wpAnyH_take (i := 7) (oi := ⟨some 23, _, _, _, _, _⟩) (v := ?_) rfl (by kernel_rfl) (by kernel_rfl) (by kernel_rfl) (fun _ _ _ h => h) (Or.inl ⟨by rfl, ?_⟩) hHeld ?_
  rotate_left
  · intro ww hSw
    try dsimp only at hSw
    go_simp
    try with_reducible rfl
    try omega
  try simp only [Act.put, List.setIfInBounds_toArray, List.set_cons_zero, List.set_cons_succ]
  refine wpAnyH_take (i := 8) (oi := ⟨some 24, _, _, _, _, _⟩) (v := ?_) rfl (by kernel_rfl) (by kernel_rfl) (by kernel_rfl) (fun _ _ _ h => h) (Or.inl ⟨by rfl, ?_⟩) hHeld ?_
  rotate_left
  · intro ww hSw
    try dsimp only at hSw
    go_simp
    try with_reducible rfl
    try omega
  try simp only [Act.put, List.setIfInBounds_toArray, List.set_cons_zero, List.set_cons_succ]
  refine wpAnyH_take (i := 10) (oi := ⟨some 10, _, _, _, _, _⟩) (v := ?_) rfl (by kernel_rfl) (by kernel_rfl) (by kernel_rfl) (fun _ _ _ h => h) (Or.inl ⟨by rfl, ?_⟩) hHeld ?_
  rotate_left
  · intro ww hSw
    try dsimp only at hSw
    go_simp
    try with_reducible rfl
    try omega
  try simp only [Act.put, List.setIfInBounds_toArray, List.set_cons_zero, List.set_cons_succ]
  refine wpAnyH_ready (rs := [11]) (by kernel_rfl) (by simp) ?_
  refine AllReadyH.cons (o := ⟨none, _, _, _, _, _⟩) rfl (fun K0 hK => ?_) AllReadyH.nil
  rw [if_pos (by rfl)]
  refine wp_store_row 34 (.tmp 11) (.tmp 24) rfl gV _ rfl (show _ = Value.agg #[.int .i64 r.2.1, .int .u32 r.2.2.1, .bool r.2.2.2.1, .slice DA Dn Dc, .slice EA En Ec] from rfl) _ _ V an_sz rfl (by simp [Value.oneCell']) ?_
  replace V := Bk.row V #[.int .i64 r.2.1, .int .u32 r.2.2.1, .bool r.2.2.2.1, .slice DA Dn Dc, .slice EA En Ec]
  refine hK.out _ _ ⟨below_setRow hHeld.1 V_b _, hHeld.2.1.row_far ne_H_V _, hHeld.2.2.1.row_far ne_G_V _, hHeld.2.2.2.1.row_far ne_J_V _, trivial⟩ (fun hHeld' => ?_)
  replace S := S.row_av S_V #[.int .i64 r.2.1, .int .u32 r.2.2.1, .bool r.2.2.2.1, .slice DA Dn Dc, .slice EA En Ec]
  replace D := D.row_av D_V #[.int .i64 r.2.1, .int .u32 r.2.2.1, .bool r.2.2.2.1, .slice DA Dn Dc, .slice EA En Ec]
  replace E := E.row_av E_V #[.int .i64 r.2.1, .int .u32 r.2.2.1, .bool r.2.2.2.1, .slice DA Dn Dc, .slice EA En Ec]
  clear hHeld hK K0
  have hHeld := hHeld'
  clear hHeld'
  generalize v6.setRow gV #[.int .i64 r.2.1, .int .u32 r.2.2.1, .bool r.2.2.2.1, .slice DA Dn Dc, .slice EA En Ec] = v7 at hHeld  V S D E ⊢
  try simp only [Act.put]
  refine wpAnyH_done (by kernel_rfl) ?_ _
  replace K := hHeld.1
  replace H := hHeld.2.1
  replace G := hHeld.2.2.1
  replace J := hHeld.2.2.2.1
  clear hHeld
  replace hL := hL0.below K
  replace h := h0.below K
  replace hs := hs0.below K
  replace hy := hy0.below K
  replace hA := hA0.below K
  replace hE := hE0.below K
  have hDn : Dn ≤ 65536 ∧ En ≤ 65536 := by have h1 := D.len; have h2 := E.len; have h3 := hrl.out; omega
  have T := Lib.hid (same_is (x := x) (y := r.2) hA hE D E (by omega) (by omega) hDn.1 hDn.2 (decide_eq_false hsb.out))
  have J_0 := J.at_ (v := .int .i64 x.1) 0 rfl
  have J_1 := J.at_ (v := .int .u32 x.2.1) 1 rfl
  have J_2 := J.at_ (v := .bool x.2.2.1) 2 rfl
  have J_3 := J.at_ (v := .slice P p1 p2) 3 rfl
  have J_4 := J.at_ (v := .slice Q q1 q2) 4 rfl
  have J_z := J.lt
  have V_0 := V.at_ (v := .int .i64 r.2.1) 0 rfl
  have V_1 := V.at_ (v := .int .u32 r.2.2.1) 1 rfl
  have V_2 := V.at_ (v := .bool r.2.2.2.1) 2 rfl
  have V_3 := V.at_ (v := .slice DA Dn Dc) 3 rfl
  have V_4 := V.at_ (v := .slice EA En Ec) 4 rfl
  have V_z := V.lt
  go_wp2_with fail
  refine T.out.mono ?_
  rintro e u8 ⟨rfl, K'⟩
  clear J_0 J_1 J_2 J_3 J_4 J_z
  clear V_0 V_1 V_2 V_3 V_4 V_z
  replace H := H.below K'
  replace G := G.below K'
  replace J := J.below K'
  replace V := V.below K'
  replace hL := hL.below K'
  replace h := h.below K'
  replace hs := hs.below K'
  replace hy := hy.below K'
  replace hA := hA.below K'
  replace hE := hE.below K'
  replace S := S.below K'
  replace D := D.below K'
  replace E := E.below K'
  replace K := Below.then_ K K'
  clear K'
  go_wp2
  go_ret2
  exact ⟨_, _, _, rfl, hs.lower (Nat.zero_le _), (fun _ _ h => h), K⟩
theorem legal_any (hL0 : Laid w) (ha : a < 4294967296) (hM : Much a p M) (h0 : IS .i64 lo w A n c zs) (hn : n ≤ 65536) (hs0 : IS .i64 lo2 w B m d xs) (hm : m ≤ 60000) (hx : mayR M zs 0 xs = true) (hX : X < 4294967296) (hy0 : IS .u32 lo3 w C q f ys) (hq : q ≤ 60000) (hw : W32 ys) (hA0 : IS .u32 lo4 w P p1 p2 x.2.2.2.1) (hE0 : IS .i64 lo5 w Q q1 q2 x.2.2.2.2) (b1 : p1 ≤ 60000) (b2 : q1 ≤ 60000) (hA1 : 0 ≤ x.2.1 ∧ x.2.1 < 4294967296) :
    Calls Tryd.prog 13 #[.agg #[.int .u32 (a : Int), .int .i64 p, .slice A n c, .int .i64 sh, .int .i64 wo, .int .i64 qu, .int .i64 tr], .slice B m d, .agg #[.int .i64 k, .int .u32 (X : Int), .slice C q f], .agg #[.int .i64 x.1, .int .u32 x.2.1, .bool x.2.2.1, .slice P p1 p2, .slice Q q1 q2]] w (RetLB B m (legS a M zs xs k X ys x) w) := by
  unfold legS
  cases hp : putO k x with
  | true =>
    rw [if_pos rfl]
    exact legal_put hL0 ha hM h0 hn hs0 hm hx hX hy0 hq hw hA0 hE0 b1 b2 hp
  | false =>
    rw [if_neg (by simp)]
    by_cases hg : k = 1 ∧ x.1 = 0
    · by_cases hsm : x = (stS a M zs xs k X ys x).2
      · rw [if_pos hsm]
        exact legal_ex_yes hL0 ha hM h0 hn hs0 hm hx hX hy0 hq hw hA0 hE0 b1 b2 hp hg.1 hg.2 hA1 rfl hsm
      · rw [if_neg hsm]
        exact legal_ex_no hL0 ha hM h0 hn hs0 hm hx hX hy0 hq hw hA0 hE0 b1 b2 hp hg.1 hg.2 hA1 rfl hsm
    · by_cases hsm : x = (stS a M zs xs k X ys x).2
      · rw [if_pos hsm]
        exact legal_do_yes hL0 ha hM h0 hn hs0 hm hx hX hy0 hq hw hA0 hE0 b1 b2 hp hg rfl hsm
      · rw [if_neg hsm]
        exact legal_do_no hL0 ha hM h0 hn hs0 hm hx hX hy0 hq hw hA0 hE0 b1 b2 hp hg rfl hsm
end
end Go.Proofs.YtmakbmmnjbnfiaaDoor
