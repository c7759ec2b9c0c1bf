/-
  The walk of the statement QueueRoom: for every two numbers the law answers true, and nothing that was there is otherwise; no conditions.
-/
import Derived.Test.YtlaihgcpaiocpaaQueueAwake
namespace Go.Proofs.Ytlaihgcpaiocpaa.queueRoom
open Go.RowKit
theorem rep_snoc (k : Nat) (x : Int) : List.replicate k x ++ [x] = List.replicate (k + 1) x := by rw [List.replicate_succ']
theorem take_succ {w : World} {m : Int} {A : Option Addr} {p c lo : Nat} {x : Int} {cl : Bool} (I : IS .i64 lo w A (p + 1) c (List.replicate (p + 1) x)) (hn : p + 1 ≤ 65536) :
    Calls Try.prog 13 #[.agg #[.int .i64 m, .slice A (p + 1) c, .bool cl]] w fun e w' => ∃ A' c', e = .returned (.tuple #[.agg #[.int .i64 m, .slice A' p c', .bool cl], .int .i64 x, .bool true]) ∧ IS .i64 w.heap.size w' A' p c' (List.replicate p x) ∧ Below w.heap.size w w' :=
  take_some I (Nat.succ_pos _) hn
set_option maxRecDepth 100000 in
set_option maxHeartbeats 1000000 in
theorem walk (a0 : Int) (a1 : Int) (w : World) (w0 : (Lit.int .u8 a0).wf = true) (_w1 : (Lit.int .i64 a1).wf = true) :
    Calls Try.prog 5 #[.int .u8 a0, .int .i64 a1] w fun e w' => e = .returned (.bool true) ∧ Below w.heap.size w w' := by
  obtain ⟨X, rfl, hX⟩ := wf_u8 w0
  clear w0 _w1
  obtain ⟨p, hp, hp'⟩ : ∃ p : Nat, (X : Int) % 64 = p ∧ p < 64 := ⟨X % 64, by omega, by omega⟩
  have K := Below.refl w.heap.size w
  go_enter Try.func5, Try.ntmps5
  go_wp2_with fail
  refine (awake_any _).mono ?_
  rintro e w1 ⟨rfl, K'⟩
  replace K := Below.then_ K K'
  clear K'
  go_wp2_with fail
  refine (new_yes (m := 1 + (p : Int)) (by omega) (by omega) _).mono ?_
  rintro e w2 ⟨rfl, K'⟩
  replace K := Below.then_ K K'
  clear K' hp
  have hg : w.heap.size ≤ w2.heap.size := K.size
  go_wp2_with fail
  have HQ := Q3.new w2 (.int .i64 (1 + (p : Int))) (.slice none 0 0) (.bool false)
  replace K := K.alloc K.size (.cells #[.int .i64 (1 + (p : Int)), .slice none 0 0, .bool false] 24)
  obtain ⟨g, hgg⟩ : ∃ g, Hid (g = w2.heap.size) := ⟨_, Lib.hid rfl⟩
  rw [← hgg.out] at HQ hg ⊢
  generalize w2.alloc (.cells #[.int .i64 (1 + (p : Int)), .slice none 0 0, .bool false] 24) = w3 at HQ K ⊢
  clear hgg
  have H0 := Lib.hid HQ
  clear HQ
  have HK := Lib.hid K
  clear K
  go_loopw [8] (fun i wr => ∃ (k : Nat) (A : Option Addr) (c : Nat), k ≤ p + 1 ∧ i = .int .i64 k ∧ Hid (Q3 wr g (.int .i64 (1 + (p : Int))) (.slice A k c) (.bool false)) ∧ Hid (IS .i64 (g + 1) wr A k c (List.replicate k a1)) ∧ Below w.heap.size w wr) (fun i _ => p + 1 - (intOf i).toNat)
  case atStart => exact ⟨0, none, 0, Nat.zero_le _, rfl, H0, Lib.hid (IS.none_ _ _ _), HK.out⟩
  case round =>
    obtain ⟨k, A, c, hk, rfl, HQ, HI, K⟩ := hrel
    clear H0 HK
    by_cases hlt : k < p + 1
    · have hlt' : (k : Int) < 1 + (p : Int) := by omega
      have q0 := HQ.out.c0
      have q1 := HQ.out.c1
      have q2 := HQ.out.c2
      have T := Lib.hid (put_ok (x := a1) HI.out hlt' (by omega))
      go_wp2_with fail
      refine (T.out).mono ?_
      rintro e w4 ⟨A4, c4, rfl, U4, K'⟩
      rw [rep_snoc] at U4
      clear T q0 q1 q2
      have HQ4 := HQ.out.below K'
      have hgl := HQ.out.lt
      replace K := Below.then_ K K'
      clear K'
      have q0 := HQ4.c0
      have q1 := HQ4.c1
      have q2 := HQ4.c2
      have f0 := HQ4.fz 0
      have f1 := HQ4.fz 1
      have f2 := HQ4.fz 2
      have qz := HQ4.lt
      clear HQ
      go_wp2
      go_roundw
      case rel =>
        refine ⟨k + 1, A4, c4, by omega, by go_num, Lib.hid ((HQ4.set_ _ _ _).alloc _), Lib.hid ?_, ?_⟩
        · exact ((((U4.lower (by omega)).set_low (Nat.lt_succ_self g) _).set_low (Nat.lt_succ_self g) _).set_low (Nat.lt_succ_self g) _).below (below_alloc _ _)
        · have K2 := ((K.setCell (p := ⟨g, 0, none⟩) hg (.int .i64 (1 + (p : Int)))).setCell (p := ⟨g, 1, none⟩) hg (.slice A4 (k + 1) c4)).setCell (p := ⟨g, 2, none⟩) hg (.bool false)
          exact K2.alloc K2.size _
      case measure => simp [intOf]; omega
    · obtain rfl : k = p + 1 := by omega
      have hlt' : ¬ ((p + 1 : Nat) : Int) < 1 + (p : Int) := by omega
      clear hlt
      have H := HQ.out
      have I := HI.out
      clear HQ HI hk
      have H_0 := H.c0
      have H_1 := H.c1
      have H_2 := H.c2
      have H_z := H.lt
      go_wp2_with fail
      refine (put_busy (m := 1 + (p : Int)) (n := p + 1) (x := a1) (by omega)).mono ?_
      rintro e w4 ⟨rfl, K'⟩
      clear H_0 H_1 H_2 H_z
      replace H := H.below K'
      replace I := I.below K'
      replace K := Below.then_ K K'
      clear K'
      have H_0 := H.c0
      have H_1 := H.c1
      have H_2 := H.c2
      have H_z := H.lt
      go_wp2_with fail
      refine (take_succ (I.below (below_alloc _ _)) (by omega)).mono ?_
      rintro e w5 ⟨A5, c5, rfl, I5, K'⟩
      clear H_0 H_1 H_2 H_z
      replace H := (H.alloc _).below K'
      replace I := (I.below (below_alloc _ _)).below K'
      have H1 := (Q3.new w4 (.int .i64 (1 + (p : Int))) (.slice A (p + 1) c) (.bool false)).below K'
      replace K := Below.then_ (Below.then_ K (below_alloc _ _)) K'
      clear K'
      go_wp2_with fail
      refine (put_ok (x := a1) (I5.below (below_alloc _ _)) (m := 1 + (p : Int)) (by omega) (by omega)).mono ?_
      rintro e w6 ⟨A6, c6, rfl, I6, K'⟩
      replace H := (H.alloc _).below K'
      replace H1 := (H1.alloc _).below K'
      replace I := (I.below (below_alloc _ _)).below K'
      replace I5 := (I5.below (below_alloc _ _)).below K'
      have H2 := (Q3.new w5 (.int .i64 (1 + (p : Int))) (.slice A5 p c5) (.bool false)).below K'
      replace K := Below.then_ (Below.then_ K (below_alloc _ _)) K'
      clear K'
      rw [rep_snoc] at I6
      have H_0 := H.c0
      have H_1 := H.c1
      have H_2 := H.c2
      have H_z := H.lt
      have H1_0 := H1.c0
      have H1_1 := H1.c1
      have H1_2 := H1.c2
      have H1_z := H1.lt
      go_wp2_with fail
      refine (same_any (I.below (below_alloc _ _)) (I.below (below_alloc _ _)) (by omega)).mono ?_
      rintro e w7 ⟨rfl, K'⟩
      clear H_0 H_1 H_2 H_z
      clear H1_0 H1_1 H1_2 H1_z
      replace H := (H.alloc _).below K'
      replace H1 := (H1.alloc _).below K'
      replace H2 := (H2.alloc _).below K'
      replace I := (I.below (below_alloc _ _)).below K'
      replace I5 := (I5.below (below_alloc _ _)).below K'
      replace I6 := (I6.below (below_alloc _ _)).below K'
      have H3 := (Q3.new w6 (.int .i64 (1 + (p : Int))) (.slice A6 (p + 1) c6) (.bool false)).below K'
      replace K := Below.then_ (Below.then_ K (below_alloc _ _)) K'
      clear K'
      have H_0 := H.c0
      have H_1 := H.c1
      have H_2 := H.c2
      have H_z := H.lt
      have H3_0 := H3.c0
      have H3_1 := H3.c1
      have H3_2 := H3.c2
      have H3_z := H3.lt
      go_wp2_with fail
      refine (same_any I6 I (by omega)).mono ?_
      rintro e w8 ⟨rfl, K'⟩
      clear H_0 H_1 H_2 H_z
      clear H3_0 H3_1 H3_2 H3_z
      replace H := H.below K'
      replace H1 := H1.below K'
      replace H2 := H2.below K'
      replace H3 := H3.below K'
      replace I := I.below K'
      replace I5 := I5.below K'
      replace I6 := I6.below K'
      replace K := Below.then_ K K'
      clear K'
      go_wp2
      go_ret
      exact ⟨rfl, K⟩
end Go.Proofs.Ytlaihgcpaiocpaa.queueRoom
