/-
  Requests held against one another, by the program and by the document: all fields; nothing that was there is otherwise. Conditions: at most 60000 addresses.
-/
import Derived.Test.YtmakbmmnjbnfiaaDoorAskRefs
namespace Go.Proofs.YtmakbmmnjbnfiaaDoor
open Go.RowKit
def sameB (k x : Int) (ys : List Int) (k2 x2 : Int) (ys2 : List Int) : Bool := decide (k = k2 ∧ x = x2 ∧ ys = ys2)
section
variable {w : World} {lo lo2 m d m2 d2 : Nat} {k x k2 x2 : Int} {B B2 : Option Addr} {ys ys2 : List Int}
set_option maxRecDepth 100000 in
set_option maxHeartbeats 1000000 in
theorem asks_any (hs : IS .u32 lo w B m d ys) (hs2 : IS .u32 lo2 w B2 m2 d2 ys2) (hm : m ≤ 60000) (hm2 : m2 ≤ 60000) :
    Calls Tryd.prog 26 #[.agg #[.int .i64 k, .int .u32 x, .slice B m d], .agg #[.int .i64 k2, .int .u32 x2, .slice B2 m2 d2]] w (RetBo (sameB k x ys k2 x2 ys2) w) := by
  have K := Below.refl w.heap.size w
  go_enter Tryd.func26, Tryd.ntmps26
  go_upto_region 1 with (fail)
  replace hs := hs.below (below_alloc _ (.cells #[.int .i64 k, .int .u32 x, .slice B m d] 30))
  replace hs2 := hs2.below (below_alloc _ (.cells #[.int .i64 k, .int .u32 x, .slice B m d] 30))
  replace K := Below.then_ K (below_alloc _ (.cells #[.int .i64 k, .int .u32 x, .slice B m d] 30))
  have G := Bk.new (w) #[.int .i64 k, .int .u32 x, .slice B m d] 30
  replace G := G.alloc (.cells #[.int .i64 k2, .int .u32 x2, .slice B2 m2 d2] 30)
  replace hs := hs.below (below_alloc _ (.cells #[.int .i64 k2, .int .u32 x2, .slice B2 m2 d2] 30))
  replace hs2 := hs2.below (below_alloc _ (.cells #[.int .i64 k2, .int .u32 x2, .slice B2 m2 d2] 30))
  replace K := Below.then_ K (below_alloc _ (.cells #[.int .i64 k2, .int .u32 x2, .slice B2 m2 d2] 30))
  have J := Bk.new ((w).alloc (.cells #[.int .i64 k, .int .u32 x, .slice B m d] 30)) #[.int .i64 k2, .int .u32 x2, .slice B2 m2 d2] 30
  try simp only [World.size_alloc] at G J
  generalize ((w).alloc (.cells #[.int .i64 k, .int .u32 x, .slice B m d] 30)).alloc (.cells #[.int .i64 k2, .int .u32 x2, .slice B2 m2 d2] 30) = w1 at G J hs hs2 K ⊢
  generalize w.heap.size + 1 = gJ at G J ⊢
  generalize w.heap.size = gG at G J ⊢
  have G_0 := G.at_ (v := .int .i64 k) 0 rfl
  have G_1 := G.at_ (v := .int .u32 x) 1 rfl
  have G_2 := G.at_ (v := .slice B m d) 2 rfl
  have G_z := G.lt
  have J_0 := J.at_ (v := .int .i64 k2) 0 rfl
  have J_1 := J.at_ (v := .int .u32 x2) 1 rfl
  have J_2 := J.at_ (v := .slice B2 m2 d2) 2 rfl
  have J_z := J.lt
  have T := Lib.hid (raddrs_any hs hs2 (by omega) (by omega))
  by_cases e1 : k = k2
  · by_cases e2 : x = x2
    · have g1 : (k == k2) = true := by simp [e1]
      have g2 : (x == x2) = true := by simp [e2]
      replace e1 := Lib.hid e1
      replace e2 := Lib.hid e2
      go_wp2_with fail
      refine T.out.mono ?_
      rintro e ww ⟨rfl, K'⟩
      go_wp2
      go_ret
      exact ⟨ret_bool (by unfold sameB; simp [e1.out, e2.out]), Below.then_ K K'⟩
    · have g1 : (k == k2) = true := by simp [e1]
      have g2 : (x == x2) = false := by simp [e2]
      replace e1 := Lib.hid e1
      replace e2 := Lib.hid e2
      go_wp2
      go_ret
      exact ⟨ret_bool (by unfold sameB; simp [e2.out]), K⟩
  · have g1 : (k == k2) = false := by simp [e1]
    replace e1 := Lib.hid e1
    go_wp2
    go_ret
    exact ⟨ret_bool (by unfold sameB; simp [e1.out]), K⟩
theorem asks_self (hs : IS .u32 lo w B m d ys) (hs2 : IS .u32 lo2 w B2 m2 d2 ys) (hm : m ≤ 60000) (hm2 : m2 ≤ 60000) :
    Calls Tryd.prog 26 #[.agg #[.int .i64 k, .int .u32 x, .slice B m d], .agg #[.int .i64 k, .int .u32 x, .slice B2 m2 d2]] w (RetBo true w) := by
  have := asks_any (k := k) (x := x) (k2 := k) (x2 := x) hs hs2 hm hm2
  rwa [show sameB k x ys k x ys = true by unfold sameB; simp] at this
/-- Where a list of the call's own lies. -/
theorem Ri.open_ {base n c : Nat} {xs : List Int} {A : Option Addr} (h : Ri .u32 22 w base (.slice A n c) n xs) : n = 0 ∨ ∃ g cur, A = some ⟨g, 0, none⟩ ∧ base ≤ g ∧ Bk w g 22 cur ∧ n ≤ cur.size := by
  rcases h.2 with ⟨_, h0⟩ | ⟨g, cap, cur, e, hg, hh, hnc, _, hcs, _⟩
  · exact .inl h0
  · injection e with e1 e2 e3
    exact .inr ⟨g, cur, e1, hg, hh, by omega⟩
end
end Go.Proofs.YtmakbmmnjbnfiaaDoor

