/-
  The anchor of the statements of queue answers true, in every world, and nothing that was there is otherwise; no conditions.
-/
import Derived.Test.YtlaihgcpaiocpaaQueueRefs
namespace Go.Proofs.Ytlaihgcpaiocpaa
open Go.RowKit
set_option maxRecDepth 100000 in
set_option maxHeartbeats 1000000 in
theorem awake_any (w : World) : Calls Try.prog 6 #[] w fun e w' => e = .returned (.bool true) ∧ Below w.heap.size w w' := by
  have K := Below.refl w.heap.size w
  go_enter Try.func6, Try.ntmps6
  go_wp2_with fail
  refine (new_yes (m := 1) (by decide) (by decide) _).mono ?_
  rintro e w1 ⟨rfl, K'⟩
  replace K := Below.then_ K K'
  clear K'
  go_wp2_with fail
  refine (new_no (m := 0) (by decide) _).mono ?_
  rintro e w2 ⟨rfl, K'⟩
  have Hq := (Q3.new w1 (.int .i64 1) (.slice none 0 0) (.bool false)).below K'
  replace K := Below.then_ (Below.then_ K (below_alloc _ _)) K'
  clear K'
  have Hq_0 := Hq.c0
  have Hq_1 := Hq.c1
  have Hq_2 := Hq.c2
  have Hq_z := Hq.lt
  go_wp2_with fail
  refine (put_ok (m := 1) (x := 7) (IS.none_ .i64 0 _) (by decide) (by decide)).mono ?_
  rintro e w3 ⟨A1, c1, rfl, U1, K'⟩
  clear Hq_0 Hq_1 Hq_2 Hq_z
  replace Hq := (Hq.alloc _).below K'
  replace K := Below.then_ (Below.then_ K (below_alloc _ _)) K'
  clear K'
  go_wp2_with fail
  refine (put_busy (m := 1) (n := 1) (x := 8) (by decide)).mono ?_
  rintro e w4 ⟨rfl, K'⟩
  replace Hq := (Hq.alloc _).below K'
  replace U1 := (U1.below (below_alloc _ _)).below K'
  have Ha := (Q3.new w3 (.int .i64 1) (.slice A1 1 c1) (.bool false)).below K'
  replace K := Below.then_ (Below.then_ K (below_alloc _ _)) K'
  clear K'
  have Ha_0 := Ha.c0
  have Ha_1 := Ha.c1
  have Ha_2 := Ha.c2
  have Ha_z := Ha.lt
  go_wp2_with fail
  refine (take_some (U1.below (below_alloc _ _)) (by decide) (by decide)).mono ?_
  rintro e w5 ⟨A2, c2, rfl, U2, K'⟩
  clear Ha_0 Ha_1 Ha_2 Ha_z
  replace Hq := (Hq.alloc _).below K'
  replace Ha := (Ha.alloc _).below K'
  replace U1 := (U1.below (below_alloc _ _)).below K'
  replace K := Below.then_ (Below.then_ K (below_alloc _ _)) K'
  clear K'
  go_wp2_with fail
  refine (take_none).mono ?_
  rintro e w6 ⟨rfl, K'⟩
  replace Hq := (Hq.alloc _).below K'
  replace Ha := (Ha.alloc _).below K'
  replace U1 := (U1.below (below_alloc _ _)).below K'
  replace U2 := (U2.below (below_alloc _ _)).below K'
  have Hb := (Q3.new w5 (.int .i64 1) (.slice A2 0 c2) (.bool false)).below K'
  replace K := Below.then_ (Below.then_ K (below_alloc _ _)) K'
  clear K'
  have Ha_0 := Ha.c0
  have Ha_1 := Ha.c1
  have Ha_2 := Ha.c2
  have Ha_z := Ha.lt
  go_wp2_with fail
  refine (close_any (U1.below (below_alloc _ _)) (by decide)).mono ?_
  rintro e w7 ⟨A3, c3, rfl, U3, K'⟩
  clear Ha_0 Ha_1 Ha_2 Ha_z
  replace Hq := (Hq.alloc _).below K'
  replace Ha := (Ha.alloc _).below K'
  replace Hb := (Hb.alloc _).below K'
  replace U1 := (U1.below (below_alloc _ _)).below K'
  replace U2 := (U2.below (below_alloc _ _)).below K'
  replace K := Below.then_ (Below.then_ K (below_alloc _ _)) K'
  clear K'
  go_wp2_with fail
  refine (put_closed).mono ?_
  rintro e w8 ⟨rfl, K'⟩
  replace Hq := (Hq.alloc _).below K'
  replace Ha := (Ha.alloc _).below K'
  replace Hb := (Hb.alloc _).below K'
  replace U1 := (U1.below (below_alloc _ _)).below K'
  replace U2 := (U2.below (below_alloc _ _)).below K'
  replace U3 := (U3.below (below_alloc _ _)).below K'
  have Hc := (Q3.new w7 (.int .i64 1) (.slice A3 1 c3) (.bool true)).below K'
  replace K := Below.then_ (Below.then_ K (below_alloc _ _)) K'
  clear K'
  have Hc_0 := Hc.c0
  have Hc_1 := Hc.c1
  have Hc_2 := Hc.c2
  have Hc_z := Hc.lt
  go_wp2_with fail
  refine (ends_any).mono ?_
  rintro e w9 ⟨rfl, K'⟩
  clear Hc_0 Hc_1 Hc_2 Hc_z
  replace Hq := (Hq.alloc _).below K'
  replace Ha := (Ha.alloc _).below K'
  replace Hb := (Hb.alloc _).below K'
  replace Hc := (Hc.alloc _).below K'
  replace U1 := (U1.below (below_alloc _ _)).below K'
  replace U2 := (U2.below (below_alloc _ _)).below K'
  replace U3 := (U3.below (below_alloc _ _)).below K'
  replace K := Below.then_ (Below.then_ K (below_alloc _ _)) K'
  clear K'
  have Hb_0 := Hb.c0
  have Hb_1 := Hb.c1
  have Hb_2 := Hb.c2
  have Hb_z := Hb.lt
  go_wp2_with fail
  refine (close_any U2 (by decide)).mono ?_
  rintro e w10 ⟨A4, c4, rfl, U4, K'⟩
  clear Hb_0 Hb_1 Hb_2 Hb_z
  replace Hq := Hq.below K'
  replace Ha := Ha.below K'
  replace Hb := Hb.below K'
  replace Hc := Hc.below K'
  replace U1 := U1.below K'
  replace U2 := U2.below K'
  replace U3 := U3.below K'
  replace K := Below.then_ K K'
  clear K'
  go_wp2_with fail
  refine (ends_any).mono ?_
  rintro e w11 ⟨rfl, K'⟩
  replace Hq := Hq.below K'
  replace Ha := Ha.below K'
  replace Hb := Hb.below K'
  replace Hc := Hc.below K'
  replace U1 := U1.below K'
  replace U2 := U2.below K'
  replace U3 := U3.below K'
  replace U4 := U4.below K'
  replace K := Below.then_ K K'
  clear K'
  have Hb_0 := Hb.c0
  have Hb_1 := Hb.c1
  have Hb_2 := Hb.c2
  have Hb_z := Hb.lt
  go_wp2_with fail
  refine (ends_any).mono ?_
  rintro e w12 ⟨rfl, K'⟩
  clear Hb_0 Hb_1 Hb_2 Hb_z
  replace Hq := Hq.below K'
  replace Ha := Ha.below K'
  replace Hb := Hb.below K'
  replace Hc := Hc.below K'
  replace U1 := U1.below K'
  replace U2 := U2.below K'
  replace U3 := U3.below K'
  replace U4 := U4.below K'
  replace K := Below.then_ K K'
  clear K'
  have Ha_0 := Ha.c0
  have Ha_1 := Ha.c1
  have Ha_2 := Ha.c2
  have Ha_z := Ha.lt
  go_wp2_with fail
  refine (may_any _ _ _ _ _ _).mono ?_
  rintro e w13 ⟨rfl, K'⟩
  clear Ha_0 Ha_1 Ha_2 Ha_z
  replace Hq := Hq.below K'
  replace Ha := Ha.below K'
  replace Hb := Hb.below K'
  replace Hc := Hc.below K'
  replace U1 := U1.below K'
  replace U2 := U2.below K'
  replace U3 := U3.below K'
  replace U4 := U4.below K'
  replace K := Below.then_ K K'
  clear K'
  go_wp2_with fail
  refine (may_any _ _ _ _ _ _).mono ?_
  rintro e w14 ⟨rfl, K'⟩
  replace Hq := Hq.below K'
  replace Ha := Ha.below K'
  replace Hb := Hb.below K'
  replace Hc := Hc.below K'
  replace U1 := U1.below K'
  replace U2 := U2.below K'
  replace U3 := U3.below K'
  replace U4 := U4.below K'
  replace K := Below.then_ K K'
  clear K'
  go_wp2
  go_ret
  exact ⟨rfl, K⟩
end Go.Proofs.Ytlaihgcpaiocpaa
