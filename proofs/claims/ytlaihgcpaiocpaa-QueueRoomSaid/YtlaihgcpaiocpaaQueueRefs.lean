/-
  What the document's own queue answers (Put, Take), and Ints and Same at one and the same list: the world grows, and nothing that was there is otherwise. Conditions: at most 65536 numbers.
-/
import Derived.Test.YtlaihgcpaiocpaaQueueOps
import Derived.ChangeAlike
namespace Go.Proofs.Ytlaihgcpaiocpaa
open Go.RowKit
section
variable {m x : Int} {w : World} {lo lo' : Nat} {A A' : Option Addr} {n c c' : Nat} {cl : Bool} {xs : List Int}
theorem ints_any (h : IS .i64 lo w A n c xs) (h' : IS .i64 lo' w A' n c' xs) (hn : n ≤ 65536) :
    Calls Try.prog 17 #[.slice A n c, .slice A' n c'] w fun e w' => e = .returned (.bool true) ∧ Below w.heap.size w w' := by
  have e0 : ((n : Int) != (n : Int)) = false := by simp
  go_enter Try.func17, Try.ntmps17
  go_wp2
  go_loopw [5] (fun i wr => ∃ k : Nat, k ≤ n ∧ i = .int .i64 k ∧ Below w.heap.size w wr) (fun i _ => n - (intOf i).toNat)
  case atStart => exact ⟨0, Nat.zero_le _, rfl, Below.refl _ _⟩
  case round =>
    obtain ⟨k, hk, rfl, Kr⟩ := hrel
    by_cases hlt : k < n
    · obtain ⟨b, o, rfl, _, hc⟩ := (h.below Kr).get hlt
      obtain ⟨b', o', rfl, _, hc'⟩ := (h'.below Kr).get hlt
      have e1 : (gi xs k != gi xs k) = false := by simp
      go_wp2
      go_quiet (fail)
      go_wp2
      go_roundw
      case rel => exact ⟨k + 1, by omega, by go_num, below_drewN Kr _⟩
      case measure => simp [intOf]; omega
    · go_wp2
      go_ret
      exact ⟨rfl, Kr⟩
theorem same_any (h : IS .i64 lo w A n c xs) (h' : IS .i64 lo' w A' n c' xs) (hn : n ≤ 65536) :
    Calls Try.prog 10 #[.agg #[.int .i64 m, .slice A n c, .bool cl], .agg #[.int .i64 m, .slice A' n c', .bool cl]] w fun e w' => e = .returned (.bool true) ∧ Below w.heap.size w w' := by
  have K1 := below_alloc w (.cells #[.int .i64 m, .slice A n c, .bool cl] 24)
  have K2 := K1.alloc K1.size (.cells #[.int .i64 m, .slice A' n c', .bool cl] 24)
  have T := Lib.hid (ints_any (h.below K2) (h'.below K2) hn)
  have e1 : (m == m) = true := by simp
  have e2 : (cl == cl) = true := by simp
  go_enter Try.func10, Try.ntmps10
  go_wp2_with fail
  refine (T.out).mono ?_
  rintro e w3 ⟨rfl, K3⟩
  go_wp2
  go_ret
  exact ⟨rfl, K2.trans (K3.mono K2.size)⟩
theorem rput_closed :
    Calls Try.prog 12 #[.agg #[.int .i64 m, .slice A n c, .bool true], .int .i64 x] w fun e w' => e = .returned (.tuple #[.agg #[.int .i64 m, .slice A n c, .bool true], .int .i64 12]) ∧ Below w.heap.size w w' := by
  go_enter Try.func12, Try.ntmps12
  go_wp2
  exact bodyPost_ret (v := .tuple #[.agg #[.int .i64 m, .slice A n c, .bool true], .int .i64 12]) (by simp [results, Try.results12, go_sem]) rfl ⟨rfl, Below.then_ (below_alloc w _) (below_alloc _ _)⟩
theorem rput_busy (h : (n : Int) = m) :
    Calls Try.prog 12 #[.agg #[.int .i64 m, .slice A n c, .bool false], .int .i64 x] w fun e w' => e = .returned (.tuple #[.agg #[.int .i64 m, .slice A n c, .bool false], .int .i64 10]) ∧ Below w.heap.size w w' := by
  subst h
  have e1 : ((n : Int) == (n : Int)) = true := by simp
  go_enter Try.func12, Try.ntmps12
  go_wp2
  exact bodyPost_ret (v := .tuple #[.agg #[.int .i64 n, .slice A n c, .bool false], .int .i64 10]) (by simp [results, Try.results12, go_sem]) rfl ⟨rfl, Below.then_ (below_alloc w _) (below_alloc _ _)⟩
theorem rput_ok (I : IS .i64 lo w A n c xs) (h : (n : Int) ≠ m) (hn : n < 65536) :
    Calls Try.prog 12 #[.agg #[.int .i64 m, .slice A n c, .bool false], .int .i64 x] w (RetQE w.heap.size m (n + 1) (xs ++ [x]) false 0 w) := by
  obtain ⟨i0, hi, hz0, hz1, hz2⟩ := info_parts int_info
  have hd : ((n : Int) == m) = false := by simpa using h
  have K1 := below_alloc w (.cells #[.int .i64 m, .slice A n c, .bool false] 24)
  have K2 := K1.alloc K1.size (.cells #[.int .i64 0, .slice none 0 0, .bool false] 24)
  have K3 := K2.alloc K2.size (.cells #[] 3)
  have hown := World.ownsRow_lit (e := 3) (size := 1) ((w.alloc (.cells #[.int .i64 m, .slice A n c, .bool false] 24)).alloc (.cells #[.int .i64 0, .slice none 0 0, .bool false] 24)) #[] 0 (Nat.le_refl _) (by unfold maxLen; omega) rfl
  simp only [World.size_alloc] at hown
  obtain ⟨A1, c1, w4, hap, O4, G4, B4⟩ := run_append_onto (P := Try.prog) (k := .i64) (ys := []) Try.underlying22 hi hz0 hz1 hz2 hown (I.below K3) (by omega) (by simp) 22
  rw [Nat.zero_add] at hap O4 B4
  have L4 : Below (w.heap.size + 1 + 1) _ w4 := (Below.refl _ _).grown G4 (by simp) (own_ge hown)
  have L5 := L4.alloc (by have := L4.size; simp at this; omega) (.cells #[.int .i64 x] 3)
  obtain ⟨A2, c2, w6, hap2, O6, G6, B6⟩ := run_append_onto (P := Try.prog) (k := .i64) Try.underlying22 hi hz0 hz1 hz2 (own_below O4 (below_alloc w4 (.cells #[.int .i64 x] 3))) (gone (k := .i64) (cell_new w4 (.int .i64 x) 3) (by unfold maxLen; omega)) (by omega) (by have := L5.size; simp at this; simp; omega) 22
  have L6 := L5.grown G6 (by have := L5.size; simp at this; simp; omega) (own_ge O4)
  have HQ := (((Q3.new w (.int .i64 m) (.slice A n c) (.bool false)).alloc (.cells #[.int .i64 0, .slice none 0 0, .bool false] 24)).alloc (.cells #[] 3)).under L6 (by omega)
  have HR := ((Q3.new (w.alloc (.cells #[.int .i64 m, .slice A n c, .bool false] 24)) (.int .i64 0) (.slice none 0 0) (.bool false)).alloc (.cells #[] 3)).under L6 (by simp)
  simp only [World.size_alloc] at HR
  obtain ⟨A3, c3, e3, I6⟩ := IS.of_own O6
  injection e3 with e3 _ e4
  subst e3; subst e4
  have HI := Lib.hid I6
  have HA := Lib.hid hap
  have HA2 := Lib.hid hap2
  have HK := Lib.hid (K3.trans (L6.mono (by omega)))
  clear I6 O6 G6 B6 O4 G4 B4 hown hap hap2 K1 K2 K3 L4 L5 L6 hi hz0 hz1 hz2
  have q0 := HQ.c0
  have q1 := HQ.c1
  have q2 := HQ.c2
  have g1 := HQ.fz 1
  have r0 := HR.c0
  have r1 := HR.c1
  have r2 := HR.c2
  have f0 := HR.fz 0
  have f1 := HR.fz 1
  have f2 := HR.fz 2
  clear HQ HR
  go_enter Try.func12, Try.ntmps12
  go_wp2_with (at_builtin; first | (refine wpList_append_run rfl (.tmp 16) (.tmp 18) 22 rfl _ _ _ _ rfl rfl HA.out ?_; clear HA) | refine wpList_append_run rfl (.tmp 19) (.tmp 21) 22 rfl _ _ _ _ rfl rfl HA2.out ?_)
  refine bodyPost_ret (v := .tuple #[.agg #[.int .i64 m, .slice A2 (n + 1) c2, .bool false], .int .i64 0]) (by simp [results, Try.results12, go_sem, r0, r1, r2]) rfl ⟨_, _, rfl, ?_, ?_⟩
  · exact ((((HI.out.set_low (by simp; omega) _).set_low (by simp) _).set_low (by simp) _).set_low (by simp) _).lower (by omega)
  · exact (((HK.out.setCell (Nat.le_refl _) _).setCell (Nat.le_succ _) _).setCell (Nat.le_succ _) _).setCell (Nat.le_succ _) _
theorem rtake_none :
    Calls Try.prog 14 #[.agg #[.int .i64 m, .slice A 0 c, .bool cl]] w fun e w' => e = .returned (.tuple #[.agg #[.int .i64 m, .slice A 0 c, .bool cl], .int .i64 0, .bool false]) ∧ Below w.heap.size w w' := by
  go_enter Try.func14, Try.ntmps14
  go_wp2
  exact bodyPost_ret (v := .tuple #[.agg #[.int .i64 m, .slice A 0 c, .bool cl], .int .i64 0, .bool false]) (by simp [results, Try.results14, go_sem]) rfl ⟨rfl, Below.then_ (below_alloc w _) (below_alloc _ _)⟩
set_option maxHeartbeats 400000 in
theorem rtake_some (I : IS .i64 lo w A n c xs) (h0 : 0 < n) (hn : n ≤ 65536) :
    Calls Try.prog 14 #[.agg #[.int .i64 m, .slice A n c, .bool cl]] w fun e w' => ∃ A' c', e = .returned (.tuple #[.agg #[.int .i64 m, .slice A' (n - 1) c', .bool cl], .int .i64 (gi xs 0), .bool true]) ∧ IS .i64 w.heap.size w' A' (n - 1) c' (xs.drop 1) ∧ Below w.heap.size w w' := by
  obtain ⟨i0, hi, hz0, hz1, hz2⟩ := info_parts int_info
  have hcap := I.cap
  have hd : ((n : Int) == 0) = false := by simp; omega
  have K1 := below_alloc w (.cells #[.int .i64 m, .slice A n c, .bool cl] 24)
  have K2 := K1.alloc K1.size (.cells #[.int .i64 0, .slice none 0 0, .bool false] 24)
  have K3 := K2.alloc K2.size (.cells #[.int .i64 m, .slice A n c, .bool cl] 24)
  have K4 := K3.alloc K3.size (.cells #[] 3)
  have hown := World.ownsRow_lit (e := 3) (size := 1) (((w.alloc (.cells #[.int .i64 m, .slice A n c, .bool cl] 24)).alloc (.cells #[.int .i64 0, .slice none 0 0, .bool false] 24)).alloc (.cells #[.int .i64 m, .slice A n c, .bool cl] 24)) #[] 0 (Nat.le_refl _) (by unfold maxLen; omega) rfl
  simp only [World.size_alloc] at hown
  obtain ⟨b, o, rfl, hb, hc⟩ := I.get h0
  rw [Nat.add_zero] at hc
  by_cases hc1 : c = 1
  · obtain rfl : n = 1 := by omega
    subst hc1
    have hd' : ((1 : Int) == 0) = false := rfl
    clear hd
    obtain ⟨A5, c5, w5, hap, O5, G5, B5⟩ := run_append_onto (P := Try.prog) (k := .i64) (ys := []) Try.underlying22 hi hz0 hz1 hz2 hown ((I.below K4).cut_eq h0) (by decide) (by simp) 22
    rw [Nat.zero_add] at hap O5 B5
    have L5 : Below (w.heap.size + 1 + 1 + 1) _ w5 := (Below.refl _ _).grown G5 (by simp) (own_ge hown)
    have HQ := ((((Q3.new w (.int .i64 m) (.slice (some ⟨b, o, none⟩) 1 1) (.bool cl)).alloc (.cells #[.int .i64 0, .slice none 0 0, .bool false] 24)).alloc (.cells #[.int .i64 m, .slice (some ⟨b, o, none⟩) 1 1, .bool cl] 24)).alloc (.cells #[] 3)).under L5 (by omega)
    have HR := (((Q3.new (w.alloc (.cells #[.int .i64 m, .slice (some ⟨b, o, none⟩) 1 1, .bool cl] 24)) (.int .i64 0) (.slice none 0 0) (.bool false)).alloc (.cells #[.int .i64 m, .slice (some ⟨b, o, none⟩) 1 1, .bool cl] 24)).alloc (.cells #[] 3)).under L5 (by simp)
    have HN := ((Q3.new ((w.alloc (.cells #[.int .i64 m, .slice (some ⟨b, o, none⟩) 1 1, .bool cl] 24)).alloc (.cells #[.int .i64 0, .slice none 0 0, .bool false] 24)) (.int .i64 m) (.slice (some ⟨b, o, none⟩) 1 1) (.bool cl)).alloc (.cells #[] 3)).under L5 (by simp)
    simp only [World.size_alloc] at HR HN
    obtain ⟨A3, c3, e3, I5⟩ := IS.of_own O5
    injection e3 with e3 _ e4
    subst e3; subst e4
    have K5 := K4.trans (L5.mono (by omega))
    have hc5 := (K5.cell (p := ⟨b, o, none⟩) hb).trans hc
    have hne1 : ¬ b = w.heap.size + 1 + 1 := by omega
    have hne2 : ¬ b = w.heap.size + 1 := by omega
    have HI := Lib.hid I5
    have HA := Lib.hid hap
    have HK := Lib.hid K5
    clear I5 O5 G5 B5 hown hap K1 K2 K3 K4 K5 L5 hi hz0 hz1 hz2 hc
    have q0 := HQ.c0
    have q1 := HQ.c1
    have q2 := HQ.c2
    have n0 := HN.c0
    have n1 := HN.c1
    have n2 := HN.c2
    have g1 := HN.fz 1
    have r0 := HR.c0
    have r1 := HR.c1
    have r2 := HR.c2
    have f0 := HR.fz 0
    have f1 := HR.fz 1
    have f2 := HR.fz 2
    clear HQ HR HN
    go_enter Try.func14, Try.ntmps14
    go_wp2_with (at_builtin; refine wpList_append_run rfl (.tmp 12) (.tmp 15) 22 rfl _ _ _ _ rfl rfl HA.out ?_)
    go_region
    go_wp2
    refine bodyPost_ret (v := .tuple #[.agg #[.int .i64 m, .slice A5 0 c5, .bool cl], .int .i64 (gi xs 0), .bool true]) (by simp [results, Try.results14, go_sem, r0, r1, r2]) rfl ⟨_, _, rfl, ?_, ?_⟩
    · exact ((((((HI.out.set_low (by simp) _).set_low (by simp) _).set_low (by simp) _).set_low (by simp) _).below (Below.refl _ _).drew)).lower (by omega)
    · exact ((((HK.out.setCell (Nat.le_add_right _ 2) _).setCell (Nat.le_succ _) _).setCell (Nat.le_succ _) _).setCell (Nat.le_succ _) _).drew
  · obtain ⟨A5, c5, w5, hap, O5, G5, B5⟩ := run_append_onto (P := Try.prog) (k := .i64) (ys := []) Try.underlying22 hi hz0 hz1 hz2 hown ((I.below K4).cut_ne (d := 1) h0 hc1) (by omega) (by simp) 22
    rw [Nat.zero_add] at hap O5 B5
    have L5 : Below (w.heap.size + 1 + 1 + 1) _ w5 := (Below.refl _ _).grown G5 (by simp) (own_ge hown)
    have HQ := ((((Q3.new w (.int .i64 m) (.slice (some ⟨b, o, none⟩) n c) (.bool cl)).alloc (.cells #[.int .i64 0, .slice none 0 0, .bool false] 24)).alloc (.cells #[.int .i64 m, .slice (some ⟨b, o, none⟩) n c, .bool cl] 24)).alloc (.cells #[] 3)).under L5 (by omega)
    have HR := (((Q3.new (w.alloc (.cells #[.int .i64 m, .slice (some ⟨b, o, none⟩) n c, .bool cl] 24)) (.int .i64 0) (.slice none 0 0) (.bool false)).alloc (.cells #[.int .i64 m, .slice (some ⟨b, o, none⟩) n c, .bool cl] 24)).alloc (.cells #[] 3)).under L5 (by simp)
    have HN := ((Q3.new ((w.alloc (.cells #[.int .i64 m, .slice (some ⟨b, o, none⟩) n c, .bool cl] 24)).alloc (.cells #[.int .i64 0, .slice none 0 0, .bool false] 24)) (.int .i64 m) (.slice (some ⟨b, o, none⟩) n c) (.bool cl)).alloc (.cells #[] 3)).under L5 (by simp)
    simp only [World.size_alloc] at HR HN
    obtain ⟨A3, c3, e3, I5⟩ := IS.of_own O5
    injection e3 with e3 _ e4
    subst e3; subst e4
    have K5 := K4.trans (L5.mono (by omega))
    have hc5 := (K5.cell (p := ⟨b, o, none⟩) hb).trans hc
    have hne1 : ¬ b = w.heap.size + 1 + 1 := by omega
    have hne2 : ¬ b = w.heap.size + 1 := by omega
    have HI := Lib.hid I5
    have HA := Lib.hid hap
    have HK := Lib.hid K5
    clear I5 O5 G5 B5 hown hap K1 K2 K3 K4 K5 L5 hi hz0 hz1 hz2 hc
    have q0 := HQ.c0
    have q1 := HQ.c1
    have q2 := HQ.c2
    have n0 := HN.c0
    have n1 := HN.c1
    have n2 := HN.c2
    have g1 := HN.fz 1
    have r0 := HR.c0
    have r1 := HR.c1
    have r2 := HR.c2
    have f0 := HR.fz 0
    have f1 := HR.fz 1
    have f2 := HR.fz 2
    clear HQ HR HN
    go_enter Try.func14, Try.ntmps14
    go_wp2_with (at_builtin; refine wpList_append_run rfl (.tmp 12) (.tmp 15) 22 rfl _ _ _ _ rfl rfl HA.out ?_)
    go_region
    go_wp2
    refine bodyPost_ret (v := .tuple #[.agg #[.int .i64 m, .slice A5 (n - 1) c5, .bool cl], .int .i64 (gi xs 0), .bool true]) (by simp [results, Try.results14, go_sem, r0, r1, r2]) rfl ⟨_, _, rfl, ?_, ?_⟩
    · exact ((((((HI.out.set_low (by simp) _).set_low (by simp) _).set_low (by simp) _).set_low (by simp) _).below (Below.refl _ _).drew)).lower (by omega)
    · exact ((((HK.out.setCell (Nat.le_add_right _ 2) _).setCell (Nat.le_succ _) _).setCell (Nat.le_succ _) _).setCell (Nat.le_succ _) _).drew
end
end Go.Proofs.Ytlaihgcpaiocpaa
