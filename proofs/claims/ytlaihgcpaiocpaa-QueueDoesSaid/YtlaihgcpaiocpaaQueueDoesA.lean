/-
  Calls at any queue, and the walk of the statement QueueDoes at a queue that may not be, or has more than 200 numbers; conditions: as each theorem states.
-/
import Derived.Test.YtlaihgcpaiocpaaQueueAwake
import Derived.Deep.RegionHeld3
namespace Go.Proofs.Ytlaihgcpaiocpaa.queueDoes
open Go.RowKit
def tkB (n : Nat) : Bool := decide (0 < n)
def putE (m : Int) (n : Nat) (cl : Bool) : Int := if cl then 12 else if m ≤ (n : Int) then 10 else 0
def putN (m : Int) (n : Nat) (cl : Bool) : Nat := if cl then n else if m ≤ (n : Int) then n else n + 1
def putX (m : Int) (n : Nat) (cl : Bool) (xs : List Int) (x : Int) : List Int := if cl then xs else if m ≤ (n : Int) then xs else xs ++ [x]
theorem putN_le {m : Int} {n : Nat} (cl : Bool) (h : n ≤ 200) : putN m n cl ≤ 65536 := by unfold putN; split; omega; split <;> omega
section
variable {m x : Int} {A : Option Addr} {n c lo : Nat} {cl : Bool} {xs : List Int} {w : World}
def RetT (m : Int) (n : Nat) (xs : List Int) (cl : Bool) (x : Int) (b : Bool) (w : World) (e : Ending) (w' : World) : Prop :=
  ∃ A c, e = .returned (.tuple #[.agg #[.int .i64 m, .slice A n c, .bool cl], .int .i64 x, .bool b]) ∧ IS .i64 0 w' A n c xs ∧ Below w.heap.size w w'
theorem put_any (I : IS .i64 lo w A n c xs) (hn : n < 65536) :
    Calls Try.prog 11 #[.agg #[.int .i64 m, .slice A n c, .bool cl], .int .i64 x] w (RetQE 0 m (putN m n cl) (putX m n cl xs x) cl (putE m n cl) w) := by
  cases cl with
  | true => exact put_closed.mono fun e w' ⟨he, K⟩ => ⟨A, c, he, (I.lower (Nat.zero_le _)).below K, K⟩
  | false =>
    by_cases h : m ≤ (n : Int)
    · have e1 : putN m n false = n := by unfold putN; simp [h]
      have e2 : putX m n false xs x = xs := by unfold putX; simp [h]
      have e3 : putE m n false = 10 := by unfold putE; simp [h]
      rw [e1, e2, e3]
      exact (put_busy h).mono fun e w' ⟨he, K⟩ => ⟨A, c, he, (I.lower (Nat.zero_le _)).below K, K⟩
    · have e1 : putN m n false = n + 1 := by unfold putN; simp [h]
      have e2 : putX m n false xs x = xs ++ [x] := by unfold putX; simp [h]
      have e3 : putE m n false = 0 := by unfold putE; simp [h]
      rw [e1, e2, e3]
      exact (put_ok I (by omega) hn).mono fun e w' ⟨A', c', he, I', K⟩ => ⟨A', c', he, I'.lower (Nat.zero_le _), K⟩
theorem rput_any (I : IS .i64 lo w A n c xs) (hm : (n : Int) ≤ m) (hn : n < 65536) :
    Calls Try.prog 12 #[.agg #[.int .i64 m, .slice A n c, .bool cl], .int .i64 x] w (RetQE 0 m (putN m n cl) (putX m n cl xs x) cl (putE m n cl) w) := by
  cases cl with
  | true => exact rput_closed.mono fun e w' ⟨he, K⟩ => ⟨A, c, he, (I.lower (Nat.zero_le _)).below K, K⟩
  | false =>
    by_cases h : m ≤ (n : Int)
    · have e1 : putN m n false = n := by unfold putN; simp [h]
      have e2 : putX m n false xs x = xs := by unfold putX; simp [h]
      have e3 : putE m n false = 10 := by unfold putE; simp [h]
      rw [e1, e2, e3]
      exact (rput_busy (by omega)).mono fun e w' ⟨he, K⟩ => ⟨A, c, he, (I.lower (Nat.zero_le _)).below K, K⟩
    · have e1 : putN m n false = n + 1 := by unfold putN; simp [h]
      have e2 : putX m n false xs x = xs ++ [x] := by unfold putX; simp [h]
      have e3 : putE m n false = 0 := by unfold putE; simp [h]
      rw [e1, e2, e3]
      exact (rput_ok I (by omega) hn).mono fun e w' ⟨A', c', he, I', K⟩ => ⟨A', c', he, I'.lower (Nat.zero_le _), K⟩
theorem take_any (I : IS .i64 lo w A n c xs) (hn : n ≤ 65536) :
    Calls Try.prog 13 #[.agg #[.int .i64 m, .slice A n c, .bool cl]] w (RetT m (n - 1) (xs.drop 1) cl (gi xs 0) (tkB n) w) := by
  rcases Nat.eq_zero_or_pos n with rfl | h
  · obtain rfl := I.empty_
    exact take_none.mono fun e w' ⟨he, K⟩ => ⟨A, c, he, (I.lower (Nat.zero_le _)).below K, K⟩
  · have e1 : tkB n = true := by unfold tkB; simp [h]
    rw [e1]
    exact (take_some I h hn).mono fun e w' ⟨A', c', he, I', K⟩ => ⟨A', c', he, I'.lower (Nat.zero_le _), K⟩
theorem rtake_any (I : IS .i64 lo w A n c xs) (hn : n ≤ 65536) :
    Calls Try.prog 14 #[.agg #[.int .i64 m, .slice A n c, .bool cl]] w (RetT m (n - 1) (xs.drop 1) cl (gi xs 0) (tkB n) w) := by
  rcases Nat.eq_zero_or_pos n with rfl | h
  · obtain rfl := I.empty_
    exact rtake_none.mono fun e w' ⟨he, K⟩ => ⟨A, c, he, (I.lower (Nat.zero_le _)).below K, K⟩
  · have e1 : tkB n = true := by unfold tkB; simp [h]
    rw [e1]
    exact (rtake_some I h hn).mono fun e w' ⟨A', c', he, I', K⟩ => ⟨A', c', he, I'.lower (Nat.zero_le _), K⟩
end
theorem rmay_is {m : Int} {A : Option Addr} {n c : Nat} {cl b : Bool} {w : World} (h : mayB m n = b) :
    Calls Try.prog 8 #[.agg #[.int .i64 m, .slice A n c, .bool cl]] w fun e w' => e = .returned (.bool b) ∧ Below w.heap.size w w' := by
  subst h; exact rmay_any _ _ _ _ _ _
theorem ends_open {m : Int} {A : Option Addr} {n c : Nat} {w : World} :
    Calls Try.prog 16 #[.agg #[.int .i64 m, .slice A n c, .bool false]] w fun e w' => e = .returned (.bool false) ∧ Below w.heap.size w w' := ends_any
theorem ends_closed {m : Int} {A : Option Addr} {n c : Nat} {w : World} :
    Calls Try.prog 16 #[.agg #[.int .i64 m, .slice A n c, .bool true]] w fun e w' => e = .returned (.bool ((n : Int) == 0)) ∧ Below w.heap.size w w' :=
  ends_any.mono fun e w' ⟨he, K⟩ => ⟨he.trans (ret_bool (by rw [Bool.true_and, Bool.eq_iff_iff]; simp)), K⟩
theorem s_step {w0 w2 w3 : World} {g : Nat} {a b c : Value} (h : w2.cell? ⟨g, 0, none⟩ = some a ∧ w2.cell? ⟨g, 1, none⟩ = some b ∧ w2.cell? ⟨g, 2, none⟩ = some c ∧ Below w0.heap.size w0 w2) (hg : g < w0.heap.size) (K : Below w2.heap.size w2 w3) :
    w3.cell? ⟨g, 0, none⟩ = some a ∧ w3.cell? ⟨g, 1, none⟩ = some b ∧ w3.cell? ⟨g, 2, none⟩ = some c ∧ Below w0.heap.size w0 w3 := by
  have hl : g < w2.heap.size := Nat.lt_of_lt_of_le hg h.2.2.2.size
  exact ⟨(K.cell (p := ⟨g, 0, none⟩) hl).trans h.1, (K.cell (p := ⟨g, 1, none⟩) hl).trans h.2.1, (K.cell (p := ⟨g, 2, none⟩) hl).trans h.2.2.1, Below.then_ h.2.2.2 K⟩
theorem sB {p : Prop} {w w' : World} (h : Below w.heap.size w w' ∧ p) : Below w.heap.size w w' := h.1
theorem s6 {w w' : World} {g0 : Nat} {a0 b0 c0 : Value} {g1 : Nat} {a1 b1 c1 : Value} {g2 : Nat} {a2 b2 c2 : Value} {g3 : Nat} {a3 b3 c3 : Value} {g4 : Nat} {a4 b4 c4 : Value} {g5 : Nat} {a5 b5 c5 : Value} (h0 : Q3 w g0 a0 b0 c0) (h1 : Q3 w g1 a1 b1 c1) (h2 : Q3 w g2 a2 b2 c2) (h3 : Q3 w g3 a3 b3 c3) (h4 : Q3 w g4 a4 b4 c4) (h5 : Q3 w g5 a5 b5 c5) (K : Below w.heap.size w w') :
    Below w.heap.size w w' ∧ w'.cell? ⟨g0, 0, none⟩ = some a0 ∧ w'.cell? ⟨g0, 1, none⟩ = some b0 ∧ w'.cell? ⟨g0, 2, none⟩ = some c0 ∧ w'.cell? ⟨g1, 0, none⟩ = some a1 ∧ w'.cell? ⟨g1, 1, none⟩ = some b1 ∧ w'.cell? ⟨g1, 2, none⟩ = some c1 ∧ w'.cell? ⟨g2, 0, none⟩ = some a2 ∧ w'.cell? ⟨g2, 1, none⟩ = some b2 ∧ w'.cell? ⟨g2, 2, none⟩ = some c2 ∧ w'.cell? ⟨g3, 0, none⟩ = some a3 ∧ w'.cell? ⟨g3, 1, none⟩ = some b3 ∧ w'.cell? ⟨g3, 2, none⟩ = some c3 ∧ w'.cell? ⟨g4, 0, none⟩ = some a4 ∧ w'.cell? ⟨g4, 1, none⟩ = some b4 ∧ w'.cell? ⟨g4, 2, none⟩ = some c4 ∧ w'.cell? ⟨g5, 0, none⟩ = some a5 ∧ w'.cell? ⟨g5, 1, none⟩ = some b5 ∧ w'.cell? ⟨g5, 2, none⟩ = some c5 := ⟨K, (h0.below K).c0, (h0.below K).c1, (h0.below K).c2, (h1.below K).c0, (h1.below K).c1, (h1.below K).c2, (h2.below K).c0, (h2.below K).c1, (h2.below K).c2, (h3.below K).c0, (h3.below K).c1, (h3.below K).c2, (h4.below K).c0, (h4.below K).c1, (h4.below K).c2, (h5.below K).c0, (h5.below K).c1, (h5.below K).c2⟩
set_option maxRecDepth 100000 in
set_option maxHeartbeats 2000000 in
theorem no_good (m : Int) (A : Option Addr) (n c : Nat) (cl : Bool) (xs : List Int) (x most : Int) (w : World) (I : IS .i64 0 w A n c xs) (hn : n ≤ 200) (h1 : 1 ≤ most) (h2 : most ≤ 64) (hm : mayB m n = false) :
    Calls Try.prog 3 #[.agg #[.int .i64 m, .slice A n c, .bool cl], .int .i64 x, .int .i64 most] w fun e w' => e = .returned (.bool true) ∧ Below w.heap.size w w' := by
  have hd : decide ((200 : Int) < (n : Int)) = false := by simp; omega
  have K := below_alloc w (.cells #[.int .i64 m, .slice A n c, .bool cl] 24)
  replace I := I.below K
  have H := Q3.new w (.int .i64 m) (.slice A n c) (.bool cl)
  have hg : w.heap.size < (w.alloc (.cells #[.int .i64 m, .slice A n c, .bool cl] 24)).heap.size := H.lt
  have HM := Lib.hid hm
  clear hm
  have eb : (mayB m n != mayB m n) = false := by simp
  go_enter Try.func3, Try.ntmps3
  go_wp2_with fail
  generalize w.alloc (.cells #[.int .i64 m, .slice A n c, .bool cl] 24) = w1 at H I K hg ⊢
  generalize w.heap.size = g at H hg ⊢
  have q0 := H.c0
  have q1 := H.c1
  have q2 := H.c2
  go_region_held3 (fun w' => w'.cell? ⟨g, 0, none⟩ = some (.int .i64 m) ∧ w'.cell? ⟨g, 1, none⟩ = some (.slice A n c) ∧ w'.cell? ⟨g, 2, none⟩ = some (.bool cl) ∧ Below w1.heap.size w1 w') (first | exact ⟨q0, q1, q2, (Below.refl _ _).drew⟩ | exact s_step (by assumption) hg K')
    (first | (go_at_call 6; refine (awake_any _).mono ?_; rintro e w' ⟨rfl, K'⟩) | (go_at_call 7; refine (may_any _ _ _ _ _ _).mono ?_; rintro e w' ⟨rfl, K'⟩) | (go_at_call 8; refine (rmay_any _ _ _ _ _ _).mono ?_; rintro e w' ⟨rfl, K'⟩))
  rename_i hS
  have L := hS.2.2.2
  clear hS K' eb q0 q1 q2
  replace H := H.below L
  replace I := I.below L
  replace K := Below.then_ K L
  clear L hg
  go_wp2_with fail
  refine (new_yes (m := most) h1 h2 _).mono ?_
  rintro e w2 ⟨rfl, K'⟩
  replace H := H.below K'
  replace I := I.below K'
  replace K := Below.then_ K K'
  clear K'
  go_wp2_with fail
  refine (same_any (IS.none_ .i64 0 _) (IS.none_ .i64 0 _) (by decide)).mono ?_
  rintro e w3 ⟨rfl, K'⟩
  replace H := (H.alloc _).below K'
  replace I := (I.below (below_alloc _ _)).below K'
  have Hn := (Q3.new w2 (.int .i64 most) (.slice none 0 0) (.bool false)).below K'
  replace K := Below.then_ (Below.then_ K (below_alloc _ _)) K'
  clear K'
  clear Hn
  have H_0 := H.c0
  have H_1 := H.c1
  have H_2 := H.c2
  have H_z := H.lt
  go_wp2_with fail
  refine (rmay_is HM.out).mono ?_
  rintro e w4 ⟨rfl, K'⟩
  clear H_0 H_1 H_2 H_z
  replace H := H.below K'
  replace I := I.below K'
  replace K := Below.then_ K K'
  clear K'
  go_wp2
  go_ret
  exact ⟨rfl, K⟩
set_option maxRecDepth 100000 in
set_option maxHeartbeats 2000000 in
theorem no_lt (m : Int) (A : Option Addr) (n c : Nat) (cl : Bool) (xs : List Int) (x most : Int) (w : World) (I : IS .i64 0 w A n c xs) (hn : n ≤ 200) (h1 : most < 1) (hm : mayB m n = false) :
    Calls Try.prog 3 #[.agg #[.int .i64 m, .slice A n c, .bool cl], .int .i64 x, .int .i64 most] w fun e w' => e = .returned (.bool true) ∧ Below w.heap.size w w' := by
  have hd : decide ((200 : Int) < (n : Int)) = false := by simp; omega
  have K := below_alloc w (.cells #[.int .i64 m, .slice A n c, .bool cl] 24)
  replace I := I.below K
  have H := Q3.new w (.int .i64 m) (.slice A n c) (.bool cl)
  have hg : w.heap.size < (w.alloc (.cells #[.int .i64 m, .slice A n c, .bool cl] 24)).heap.size := H.lt
  have HM := Lib.hid hm
  clear hm
  have eb : (mayB m n != mayB m n) = false := by simp
  go_enter Try.func3, Try.ntmps3
  go_wp2_with fail
  generalize w.alloc (.cells #[.int .i64 m, .slice A n c, .bool cl] 24) = w1 at H I K hg ⊢
  generalize w.heap.size = g at H hg ⊢
  have q0 := H.c0
  have q1 := H.c1
  have q2 := H.c2
  go_region_held3 (fun w' => w'.cell? ⟨g, 0, none⟩ = some (.int .i64 m) ∧ w'.cell? ⟨g, 1, none⟩ = some (.slice A n c) ∧ w'.cell? ⟨g, 2, none⟩ = some (.bool cl) ∧ Below w1.heap.size w1 w') (first | exact ⟨q0, q1, q2, (Below.refl _ _).drew⟩ | exact s_step (by assumption) hg K')
    (first | (go_at_call 6; refine (awake_any _).mono ?_; rintro e w' ⟨rfl, K'⟩) | (go_at_call 7; refine (may_any _ _ _ _ _ _).mono ?_; rintro e w' ⟨rfl, K'⟩) | (go_at_call 8; refine (rmay_any _ _ _ _ _ _).mono ?_; rintro e w' ⟨rfl, K'⟩))
  rename_i hS
  have L := hS.2.2.2
  clear hS K' eb q0 q1 q2
  replace H := H.below L
  replace I := I.below L
  replace K := Below.then_ K L
  clear L hg
  go_wp2_with fail
  refine (new_no (m := most) (by omega) _).mono ?_
  rintro e w2 ⟨rfl, K'⟩
  replace H := H.below K'
  replace I := I.below K'
  replace K := Below.then_ K K'
  clear K'
  go_wp2_with fail
  refine (same_any (IS.none_ .i64 0 _) (IS.none_ .i64 0 _) (by decide)).mono ?_
  rintro e w3 ⟨rfl, K'⟩
  replace H := (H.alloc _).below K'
  replace I := (I.below (below_alloc _ _)).below K'
  have Hn := (Q3.new w2 (.int .i64 0) (.slice none 0 0) (.bool false)).below K'
  replace K := Below.then_ (Below.then_ K (below_alloc _ _)) K'
  clear K'
  clear Hn
  have H_0 := H.c0
  have H_1 := H.c1
  have H_2 := H.c2
  have H_z := H.lt
  go_wp2_with fail
  refine (rmay_is HM.out).mono ?_
  rintro e w4 ⟨rfl, K'⟩
  clear H_0 H_1 H_2 H_z
  replace H := H.below K'
  replace I := I.below K'
  replace K := Below.then_ K K'
  clear K'
  go_wp2
  go_ret
  exact ⟨rfl, K⟩
set_option maxRecDepth 100000 in
set_option maxHeartbeats 2000000 in
theorem no_gt (m : Int) (A : Option Addr) (n c : Nat) (cl : Bool) (xs : List Int) (x most : Int) (w : World) (I : IS .i64 0 w A n c xs) (hn : n ≤ 200) (h1 : 64 < most) (hm : mayB m n = false) :
    Calls Try.prog 3 #[.agg #[.int .i64 m, .slice A n c, .bool cl], .int .i64 x, .int .i64 most] w fun e w' => e = .returned (.bool true) ∧ Below w.heap.size w w' := by
  have hd : decide ((200 : Int) < (n : Int)) = false := by simp; omega
  have K := below_alloc w (.cells #[.int .i64 m, .slice A n c, .bool cl] 24)
  replace I := I.below K
  have H := Q3.new w (.int .i64 m) (.slice A n c) (.bool cl)
  have hg : w.heap.size < (w.alloc (.cells #[.int .i64 m, .slice A n c, .bool cl] 24)).heap.size := H.lt
  have HM := Lib.hid hm
  clear hm
  have eb : (mayB m n != mayB m n) = false := by simp
  go_enter Try.func3, Try.ntmps3
  go_wp2_with fail
  generalize w.alloc (.cells #[.int .i64 m, .slice A n c, .bool cl] 24) = w1 at H I K hg ⊢
  generalize w.heap.size = g at H hg ⊢
  have q0 := H.c0
  have q1 := H.c1
  have q2 := H.c2
  go_region_held3 (fun w' => w'.cell? ⟨g, 0, none⟩ = some (.int .i64 m) ∧ w'.cell? ⟨g, 1, none⟩ = some (.slice A n c) ∧ w'.cell? ⟨g, 2, none⟩ = some (.bool cl) ∧ Below w1.heap.size w1 w') (first | exact ⟨q0, q1, q2, (Below.refl _ _).drew⟩ | exact s_step (by assumption) hg K')
    (first | (go_at_call 6; refine (awake_any _).mono ?_; rintro e w' ⟨rfl, K'⟩) | (go_at_call 7; refine (may_any _ _ _ _ _ _).mono ?_; rintro e w' ⟨rfl, K'⟩) | (go_at_call 8; refine (rmay_any _ _ _ _ _ _).mono ?_; rintro e w' ⟨rfl, K'⟩))
  rename_i hS
  have L := hS.2.2.2
  clear hS K' eb q0 q1 q2
  replace H := H.below L
  replace I := I.below L
  replace K := Below.then_ K L
  clear L hg
  go_wp2_with fail
  refine (new_no (m := most) (by omega) _).mono ?_
  rintro e w2 ⟨rfl, K'⟩
  replace H := H.below K'
  replace I := I.below K'
  replace K := Below.then_ K K'
  clear K'
  go_wp2_with fail
  refine (same_any (IS.none_ .i64 0 _) (IS.none_ .i64 0 _) (by decide)).mono ?_
  rintro e w3 ⟨rfl, K'⟩
  replace H := (H.alloc _).below K'
  replace I := (I.below (below_alloc _ _)).below K'
  have Hn := (Q3.new w2 (.int .i64 0) (.slice none 0 0) (.bool false)).below K'
  replace K := Below.then_ (Below.then_ K (below_alloc _ _)) K'
  clear K'
  clear Hn
  have H_0 := H.c0
  have H_1 := H.c1
  have H_2 := H.c2
  have H_z := H.lt
  go_wp2_with fail
  refine (rmay_is HM.out).mono ?_
  rintro e w4 ⟨rfl, K'⟩
  clear H_0 H_1 H_2 H_z
  replace H := H.below K'
  replace I := I.below K'
  replace K := Below.then_ K K'
  clear K'
  go_wp2
  go_ret
  exact ⟨rfl, K⟩
set_option maxRecDepth 100000 in
set_option maxHeartbeats 2000000 in
theorem big (m : Int) (A : Option Addr) (n c : Nat) (cl : Bool) (x most : Int) (w : World) (hn : 200 < n) :
    Calls Try.prog 3 #[.agg #[.int .i64 m, .slice A n c, .bool cl], .int .i64 x, .int .i64 most] w fun e w' => e = .returned (.bool true) ∧ Below w.heap.size w w' := by
  have hd : decide ((200 : Int) < (n : Int)) = true := by simp; omega
  have K := below_alloc w (.cells #[.int .i64 m, .slice A n c, .bool cl] 24)
  have H := Q3.new w (.int .i64 m) (.slice A n c) (.bool cl)
  have hg : w.heap.size < (w.alloc (.cells #[.int .i64 m, .slice A n c, .bool cl] 24)).heap.size := H.lt
  go_enter Try.func3, Try.ntmps3
  go_wp2_with fail
  generalize w.alloc (.cells #[.int .i64 m, .slice A n c, .bool cl] 24) = w1 at H K hg ⊢
  generalize w.heap.size = g at H hg ⊢
  have q0 := H.c0
  have q1 := H.c1
  have q2 := H.c2
  have KK := K
  clear K
  refine wp_region_held_drew (S := fun w' => w'.cell? ⟨g, 0, none⟩ = some (.int .i64 m) ∧ w'.cell? ⟨g, 1, none⟩ = some (.slice A n c) ∧ w'.cell? ⟨g, 2, none⟩ = some (.bool cl) ∧ Below w1.heap.size w1 w') (by kernel_rfl) ⟨q0, q1, q2, (Below.refl _ _).drew⟩ (fun hHeld => ?_)
  refine wpAnyH_ready (rs := [0]) (by kernel_rfl) (by simp) ?_
  refine AllReadyH.cons (o := ⟨some 21, _, _, _, _, _⟩) rfl (fun K hK => ?_) AllReadyH.nil
  go_simp
  refine (awake_any _).mono ?_
  rintro e w' ⟨rfl, K'⟩
  refine hK.out _ _ (s_step hHeld hg K') (fun hHeld' => ?_)
  clear hHeld K' hK
  clear K
  have hHeld := hHeld'
  clear hHeld'
  try simp only [Act.put, List.setIfInBounds_toArray, List.set_cons_zero, List.set_cons_succ]
  refine wpAnyH_take (i := 1) (oi := ⟨some 22, _, _, _, _, _⟩) (v := ?_) rfl (by kernel_rfl) (by kernel_rfl) (by kernel_rfl) (fun _ _ _ h => h) (Or.inl ⟨by rfl, ?_⟩) hHeld ?_
  rotate_left
  · intro w hSw
    try dsimp only at hSw
    go_simp
    try with_reducible rfl
  try simp only [Act.put, List.setIfInBounds_toArray, List.set_cons_zero, List.set_cons_succ]
  refine wpAnyH_take (i := 2) (oi := ⟨some 23, _, _, _, _, _⟩) (v := ?_) rfl (by kernel_rfl) (by kernel_rfl) (by kernel_rfl) (fun _ _ _ h => h) (Or.inl ⟨by rfl, ?_⟩) hHeld ?_
  rotate_left
  · intro w hSw
    try dsimp only at hSw
    go_simp
    try with_reducible rfl
  try simp only [Act.put, List.setIfInBounds_toArray, List.set_cons_zero, List.set_cons_succ]
  refine wpAnyH_take (i := 3) (oi := ⟨some 24, _, _, _, _, _⟩) (v := ?_) rfl (by kernel_rfl) (by kernel_rfl) (by kernel_rfl) (fun _ _ _ h => h) (Or.inl ⟨by rfl, ?_⟩) hHeld ?_
  rotate_left
  · intro w hSw
    try dsimp only at hSw
    go_simp
    try with_reducible rfl
  try simp only [Act.put, List.setIfInBounds_toArray, List.set_cons_zero, List.set_cons_succ]
  refine wpAnyH_take (i := 4) (oi := ⟨some 25, _, _, _, _, _⟩) (v := ?_) rfl (by kernel_rfl) (by kernel_rfl) (by kernel_rfl) (fun _ _ _ h => h) (Or.inl ⟨by rfl, ?_⟩) hHeld ?_
  rotate_left
  · intro w hSw
    try dsimp only at hSw
    go_simp
    try with_reducible rfl
  try simp only [Act.put, List.setIfInBounds_toArray, List.set_cons_zero, List.set_cons_succ]
  refine wpAnyH_take (i := 5) (oi := ⟨some 26, _, _, _, _, _⟩) (v := ?_) rfl (by kernel_rfl) (by kernel_rfl) (by kernel_rfl) (fun _ _ _ h => h) (Or.inl ⟨by rfl, ?_⟩) hHeld ?_
  rotate_left
  · intro w hSw
    try dsimp only at hSw
    go_simp
    try with_reducible rfl
  try simp only [Act.put, List.setIfInBounds_toArray, List.set_cons_zero, List.set_cons_succ]
  refine wpAnyH_take (i := 6) (oi := ⟨some 27, _, _, _, _, _⟩) (v := ?_) rfl (by kernel_rfl) (by kernel_rfl) (by kernel_rfl) (fun _ _ _ h => h) (Or.inl ⟨by rfl, ?_⟩) hHeld ?_
  rotate_left
  · intro w hSw
    try dsimp only at hSw
    go_simp
    try with_reducible rfl
  try simp only [Act.put, List.setIfInBounds_toArray, List.set_cons_zero, List.set_cons_succ]
  refine wpAnyH_take (i := 7) (oi := ⟨some 28, _, _, _, _, _⟩) (v := ?_) rfl (by kernel_rfl) (by kernel_rfl) (by kernel_rfl) (fun _ _ _ h => h) (Or.inl ⟨by rfl, ?_⟩) hHeld ?_
  rotate_left
  · intro w hSw
    try dsimp only at hSw
    go_simp
    try with_reducible rfl
  try simp only [Act.put, List.setIfInBounds_toArray, List.set_cons_zero, List.set_cons_succ]
  refine wpAnyH_take (i := 8) (oi := ⟨some 29, _, _, _, _, _⟩) (v := ?_) rfl (by kernel_rfl) (by kernel_rfl) (by kernel_rfl) (fun _ _ _ h => h) (Or.inl ⟨by rfl, ?_⟩) hHeld ?_
  rotate_left
  · intro w hSw
    try dsimp only at hSw
    go_simp
    try with_reducible rfl
  try simp only [Act.put, List.setIfInBounds_toArray, List.set_cons_zero, List.set_cons_succ]
  refine wpAnyH_take (i := 9) (oi := ⟨some 30, _, _, _, _, _⟩) (v := undef) rfl (by kernel_rfl) (by kernel_rfl) (by kernel_rfl) (fun _ _ _ h => h) (Or.inr ⟨by rfl, rfl⟩) hHeld ?_
  try simp only [Act.put, List.setIfInBounds_toArray, List.set_cons_zero, List.set_cons_succ]
  refine wpAnyH_take (i := 10) (oi := ⟨some 31, _, _, _, _, _⟩) (v := undef) rfl (by kernel_rfl) (by kernel_rfl) (by kernel_rfl) (fun _ _ _ h => h) (Or.inr ⟨by rfl, rfl⟩) hHeld ?_
  try simp only [Act.put, List.setIfInBounds_toArray, List.set_cons_zero, List.set_cons_succ]
  refine wpAnyH_take (i := 11) (oi := ⟨some 32, _, _, _, _, _⟩) (v := undef) rfl (by kernel_rfl) (by kernel_rfl) (by kernel_rfl) (fun _ _ _ h => h) (Or.inr ⟨by rfl, rfl⟩) hHeld ?_
  try simp only [Act.put, List.setIfInBounds_toArray, List.set_cons_zero, List.set_cons_succ]
  refine wpAnyH_take (i := 12) (oi := ⟨some 33, _, _, _, _, _⟩) (v := undef) rfl (by kernel_rfl) (by kernel_rfl) (by kernel_rfl) (fun _ _ _ h => h) (Or.inr ⟨by rfl, rfl⟩) hHeld ?_
  try simp only [Act.put, List.setIfInBounds_toArray, List.set_cons_zero, List.set_cons_succ]
  refine wpAnyH_take (i := 13) (oi := ⟨some 34, _, _, _, _, _⟩) (v := undef) rfl (by kernel_rfl) (by kernel_rfl) (by kernel_rfl) (fun _ _ _ h => h) (Or.inr ⟨by rfl, rfl⟩) hHeld ?_
  try simp only [Act.put, List.setIfInBounds_toArray, List.set_cons_zero, List.set_cons_succ]
  refine wpAnyH_take (i := 14) (oi := ⟨some 35, _, _, _, _, _⟩) (v := ?_) rfl (by kernel_rfl) (by kernel_rfl) (by kernel_rfl) (fun _ _ _ h => h) (Or.inl ⟨by rfl, ?_⟩) hHeld ?_
  rotate_left
  · intro w hSw
    try dsimp only at hSw
    go_simp
    try with_reducible rfl
  try simp only [Act.put, List.setIfInBounds_toArray, List.set_cons_zero, List.set_cons_succ]
  refine wpAnyH_done (by kernel_rfl) ?_ _
  have H' := H.below hHeld.2.2.2
  have KK' := Below.then_ KK hHeld.2.2.2
  clear hHeld q0 q1 q2 H KK
  go_wp2_with fail
  refine (awake_any _).mono ?_
  rintro e w2 ⟨rfl, K'⟩
  have q1 := (H'.below K').c1
  go_wp2
  go_ret
  exact ⟨rfl, Below.then_ KK' K'⟩
end Go.Proofs.Ytlaihgcpaiocpaa.queueDoes
