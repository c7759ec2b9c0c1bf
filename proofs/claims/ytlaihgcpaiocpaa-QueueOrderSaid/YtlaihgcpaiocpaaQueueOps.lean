/-
  What Put, Take and Close of package queue answer: the world grows, and nothing that was there is otherwise; what is answered anew lies in new blocks. Conditions: at most 65536 numbers.
-/
import Derived.Test.YtlaihgcpaiocpaaQueueCalls
namespace Go.Proofs.Ytlaihgcpaiocpaa
open Go.RowKit
section
variable {m x : Int} {A : Option Addr} {n c : Nat} {w : World}
theorem put_closed :
    Calls Try.prog 11 #[.agg #[.int .i64 m, .slice A n c, .bool true], .int .i64 x] w fun e w' => e = .returned (.tuple #[.agg #[.int .i64 m, .slice A n c, .bool true], .int .i64 12]) ∧ Below w.heap.size w w' := by
  go_enter Try.func11, Try.ntmps11
  go_wp2
  exact bodyPost_ret (v := .tuple #[.agg #[.int .i64 m, .slice A n c, .bool true], .int .i64 12]) (by simp [results, Try.results11, go_sem]) rfl ⟨rfl, Below.then_ (below_alloc w _) (below_alloc _ _)⟩
theorem put_busy (h : m ≤ (n : Int)) :
    Calls Try.prog 11 #[.agg #[.int .i64 m, .slice A n c, .bool false], .int .i64 x] w fun e w' => e = .returned (.tuple #[.agg #[.int .i64 m, .slice A n c, .bool false], .int .i64 10]) ∧ Below w.heap.size w w' := by
  go_enter Try.func11, Try.ntmps11
  go_wp2
  exact bodyPost_ret (v := .tuple #[.agg #[.int .i64 m, .slice A n c, .bool false], .int .i64 10]) (by simp [results, Try.results11, go_sem]) rfl ⟨rfl, Below.then_ (below_alloc w _) (below_alloc _ _)⟩
theorem put_ok {lo : Nat} {xs : List Int} (I : IS .i64 lo w A n c xs) (h : (n : Int) < m) (hn : n < 65536) :
    Calls Try.prog 11 #[.agg #[.int .i64 m, .slice A n c, .bool false], .int .i64 x] w (RetQE w.heap.size m (n + 1) (xs ++ [x]) false 0 w) := by
  obtain ⟨i0, hi, hz0, hz1, hz2⟩ := info_parts int_info
  have hd : decide (m ≤ (n : Int)) = false := by simpa using h
  have hcap := I.cap
  have K1 := below_alloc w (.cells #[.int .i64 m, .slice A n c, .bool false] 24)
  have K2 := K1.alloc K1.size (.cells #[.int .i64 0, .slice none 0 0, .bool false] 24)
  have K3 := K2.alloc K2.size (.cells #[.int .i64 x] 3)
  have hs := gone (k := .i64) (w := ((w.alloc (.cells #[.int .i64 m, .slice A n c, .bool false] 24)).alloc (.cells #[.int .i64 0, .slice none 0 0, .bool false] 24)).alloc (.cells #[.int .i64 x] 3)) (x := x) (g := w.heap.size + 1 + 1) (by have h := cell_new ((w.alloc (.cells #[.int .i64 m, .slice A n c, .bool false] 24)).alloc (.cells #[.int .i64 0, .slice none 0 0, .bool false] 24)) (.int .i64 x) 3; simpa only [World.size_alloc] using h) (by unfold maxLen; omega)
  obtain ⟨A', c', w4, hap, I4, K4⟩ := run_append_full (P := Try.prog) Try.underlying22 hi hz0 hz1 hz2 ((I.below K3).recap) hs (by omega) (by omega) (by omega) 22
  have HQ := (((Q3.new w (.int .i64 m) (.slice A n c) (.bool false)).alloc (.cells #[.int .i64 0, .slice none 0 0, .bool false] 24)).alloc (.cells #[.int .i64 x] 3)).below K4
  have HR := ((Q3.new (w.alloc (.cells #[.int .i64 m, .slice A n c, .bool false] 24)) (.int .i64 0) (.slice none 0 0) (.bool false)).alloc (.cells #[.int .i64 x] 3)).below K4
  simp only [World.size_alloc] at HR
  simp only [World.size_alloc] at I4
  have HI := Lib.hid I4
  have HA := Lib.hid hap
  have HK := Lib.hid (K3.trans (K4.mono K3.size))
  clear I4 hs hap K1 K2 K3 K4 hi hz0 hz1 hz2
  have q0 := HQ.c0
  have q1 := HQ.c1
  have q2 := HQ.c2
  have g1 := HQ.fz 1
  have r0 := HR.c0
  have r1 := HR.c1
  have r2 := HR.c2
  have f0 := HR.fz 0
  have f1 := HR.fz 1
  have f2 := HR.fz 2
  clear HQ HR
  go_enter Try.func11, Try.ntmps11
  go_wp2_with (at_builtin; refine wpList_append_run rfl (.tmp 24) (.tmp 26) 22 rfl _ _ _ _ rfl rfl HA.out ?_)
  refine bodyPost_ret (v := .tuple #[.agg #[.int .i64 m, .slice A' (n + 1) c', .bool false], .int .i64 0]) (by simp [results, Try.results11, go_sem, r0, r1, r2]) rfl ⟨_, _, rfl, ?_, ?_⟩
  · exact ((((HI.out.set_low (by simp; omega) _).set_low (by simp) _).set_low (by simp) _).set_low (by simp) _).lower (by omega)
  · exact (((HK.out.setCell (Nat.le_refl _) _).setCell (Nat.le_succ _) _).setCell (Nat.le_succ _) _).setCell (Nat.le_succ _) _
theorem take_none {cl : Bool} :
    Calls Try.prog 13 #[.agg #[.int .i64 m, .slice A 0 c, .bool cl]] w fun e w' => e = .returned (.tuple #[.agg #[.int .i64 m, .slice A 0 c, .bool cl], .int .i64 0, .bool false]) ∧ Below w.heap.size w w' := by
  go_enter Try.func13, Try.ntmps13
  go_wp2
  exact bodyPost_ret (v := .tuple #[.agg #[.int .i64 m, .slice A 0 c, .bool cl], .int .i64 0, .bool false]) (by simp [results, Try.results13, go_sem]) rfl ⟨rfl, Below.then_ (below_alloc w _) (below_alloc _ _)⟩
theorem close_any {lo : Nat} {xs : List Int} {cl : Bool} (I : IS .i64 lo w A n c xs) (hn : n ≤ 65536) :
    Calls Try.prog 15 #[.agg #[.int .i64 m, .slice A n c, .bool cl]] w fun e w' => ∃ A' c', e = .returned (.agg #[.int .i64 m, .slice A' n c', .bool true]) ∧ IS .i64 w.heap.size w' A' n c' xs ∧ Below w.heap.size w w' := by
  have K1 := below_alloc w (.cells #[.int .i64 m, .slice A n c, .bool cl] 24)
  have K2 := K1.alloc K1.size (.cells #[.int .i64 0, .slice none 0 0, .bool false] 24)
  have T := Lib.hid (clone_any (I.below K2) hn)
  go_enter Try.func15, Try.ntmps15
  go_wp2_with fail
  refine (T.out).mono ?_
  rintro e w3 ⟨A', c', rfl, I3, K3⟩
  clear T
  have HQ := ((Q3.new w (.int .i64 m) (.slice A n c) (.bool cl)).alloc (.cells #[.int .i64 0, .slice none 0 0, .bool false] 24)).below K3
  have HR := (Q3.new (w.alloc (.cells #[.int .i64 m, .slice A n c, .bool cl] 24)) (.int .i64 0) (.slice none 0 0) (.bool false)).below K3
  simp only [World.size_alloc] at HR I3
  have HI := Lib.hid I3
  have HK := Lib.hid (K2.trans (K3.mono K2.size))
  clear I3 K1 K2 K3
  have q0 := HQ.c0
  have q1 := HQ.c1
  have q2 := HQ.c2
  have g1 := HQ.fz 1
  have g2 := HQ.fz 2
  have r0 := HR.c0
  have r1 := HR.c1
  have r2 := HR.c2
  have f0 := HR.fz 0
  have f1 := HR.fz 1
  have f2 := HR.fz 2
  clear HQ HR
  go_wp2
  refine bodyPost_ret (v := .agg #[.int .i64 m, .slice A' n c', .bool true]) (by simp [results, Try.results15, go_sem, r0, r1, r2]) rfl ⟨_, _, rfl, ?_, ?_⟩
  · exact (((((HI.out.set_low (by simp; omega) _).set_low (by simp; omega) _).set_low (by simp) _).set_low (by simp) _).set_low (by simp) _).lower (by omega)
  · exact ((((HK.out.setCell (Nat.le_refl _) _).setCell (Nat.le_refl _) _).setCell (Nat.le_succ _) _).setCell (Nat.le_succ _) _).setCell (Nat.le_succ _) _
theorem take_some {lo : Nat} {xs : List Int} {cl : Bool} (I : IS .i64 lo w A n c xs) (h0 : 0 < n) (hn : n ≤ 65536) :
    Calls Try.prog 13 #[.agg #[.int .i64 m, .slice A n c, .bool cl]] w fun e w' => ∃ A' c', e = .returned (.tuple #[.agg #[.int .i64 m, .slice A' (n - 1) c', .bool cl], .int .i64 (gi xs 0), .bool true]) ∧ IS .i64 w.heap.size w' A' (n - 1) c' (xs.drop 1) ∧ Below w.heap.size w w' := by
  have K1 := below_alloc w (.cells #[.int .i64 m, .slice A n c, .bool cl] 24)
  have K2 := K1.alloc K1.size (.cells #[.int .i64 0, .slice none 0 0, .bool false] 24)
  have hcap := I.cap
  have hd : ((n : Int) == 0) = false := by simp; omega
  obtain ⟨b, o, rfl, hb, hc⟩ := (I.below K2).get h0
  rw [Nat.add_zero] at hc
  by_cases hc1 : c = 1
  · obtain rfl : n = 1 := by omega
    subst hc1
    have hd' : ((1 : Int) == 0) = false := rfl
    clear hd
    have T := Lib.hid (clone_any ((I.below K2).cut_eq h0) (by decide))
    go_enter Try.func13, Try.ntmps13
    go_wp2_with fail
    refine (T.out).mono ?_
    rintro e w3 ⟨A', c', rfl, I3, K3⟩
    clear T
    have HQ := ((Q3.new w (.int .i64 m) (.slice (some ⟨b, o, none⟩) 1 1) (.bool cl)).alloc (.cells #[.int .i64 0, .slice none 0 0, .bool false] 24)).below K3
    have HR := (Q3.new (w.alloc (.cells #[.int .i64 m, .slice (some ⟨b, o, none⟩) 1 1, .bool cl] 24)) (.int .i64 0) (.slice none 0 0) (.bool false)).below K3
    simp only [World.size_alloc] at HR I3
    have HI := Lib.hid I3
    have HK := Lib.hid (K2.trans (K3.mono K2.size))
    clear I3 K1 K2 K3 hc hb
    have q0 := HQ.c0
    have q1 := HQ.c1
    have q2 := HQ.c2
    have g1 := HQ.fz 1
    have r0 := HR.c0
    have r1 := HR.c1
    have r2 := HR.c2
    have f0 := HR.fz 0
    have f1 := HR.fz 1
    have f2 := HR.fz 2
    clear HQ HR
    go_wp2
    refine bodyPost_ret (v := .tuple #[.agg #[.int .i64 m, .slice A' 0 c', .bool cl], .int .i64 (gi xs 0), .bool true]) (by simp [results, Try.results13, go_sem, r0, r1, r2]) rfl ⟨_, _, rfl, ?_, ?_⟩
    · exact ((((HI.out.set_low (by simp; omega) _).set_low (by simp) _).set_low (by simp) _).set_low (by simp) _).lower (by omega)
    · exact (((HK.out.setCell (Nat.le_refl _) _).setCell (Nat.le_succ _) _).setCell (Nat.le_succ _) _).setCell (Nat.le_succ _) _
  · have T := Lib.hid (clone_any ((I.below K2).cut_ne (d := 1) h0 hc1) (by omega))
    go_enter Try.func13, Try.ntmps13
    go_wp2_with fail
    refine (T.out).mono ?_
    rintro e w3 ⟨A', c', rfl, I3, K3⟩
    clear T
    have HQ := ((Q3.new w (.int .i64 m) (.slice (some ⟨b, o, none⟩) n c) (.bool cl)).alloc (.cells #[.int .i64 0, .slice none 0 0, .bool false] 24)).below K3
    have HR := (Q3.new (w.alloc (.cells #[.int .i64 m, .slice (some ⟨b, o, none⟩) n c, .bool cl] 24)) (.int .i64 0) (.slice none 0 0) (.bool false)).below K3
    simp only [World.size_alloc] at HR I3
    have HI := Lib.hid I3
    have HK := Lib.hid (K2.trans (K3.mono K2.size))
    clear I3 K1 K2 K3 hc hb
    have q0 := HQ.c0
    have q1 := HQ.c1
    have q2 := HQ.c2
    have g1 := HQ.fz 1
    have r0 := HR.c0
    have r1 := HR.c1
    have r2 := HR.c2
    have f0 := HR.fz 0
    have f1 := HR.fz 1
    have f2 := HR.fz 2
    clear HQ HR
    go_wp2
    refine bodyPost_ret (v := .tuple #[.agg #[.int .i64 m, .slice A' (n - 1) c', .bool cl], .int .i64 (gi xs 0), .bool true]) (by simp [results, Try.results13, go_sem, r0, r1, r2]) rfl ⟨_, _, rfl, ?_, ?_⟩
    · exact ((((HI.out.set_low (by simp; omega) _).set_low (by simp) _).set_low (by simp) _).set_low (by simp) _).lower (by omega)
    · exact (((HK.out.setCell (Nat.le_refl _) _).setCell (Nat.le_succ _) _).setCell (Nat.le_succ _) _).setCell (Nat.le_succ _) _
end
end Go.Proofs.Ytlaihgcpaiocpaa
