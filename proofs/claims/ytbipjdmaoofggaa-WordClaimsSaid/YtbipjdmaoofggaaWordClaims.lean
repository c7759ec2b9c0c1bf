/-
  The walk of the law WordClaims: for every word and any two bits it answers true.
-/
import Derived.Test.YtbipjdmaoofggaaWordAwake
namespace Go.Proofs.Ytbipjdmaoofggaa.wordClaims
open Go.RowKit
set_option maxHeartbeats 4000000 in
theorem walk (a0 : Int) (a1 : Int) (a2 : Int) (w : World) (w0 : (Lit.int .u64 a0).wf = true) (w1 : (Lit.int .u8 a1).wf = true) (w2 : (Lit.int .u8 a2).wf = true) :
    Calls Try.prog 5 #[.int .u64 a0, .int .u8 a1, .int .u8 a2] w fun e w' => e = .returned (.bool true) ∧ Below w.heap.size w w' := by
  obtain ⟨X, rfl, hX⟩ := wf_u64 w0
  obtain ⟨Y, rfl, hY⟩ := wf_u8 w1
  obtain ⟨Z, rfl, hZ⟩ := wf_u8 w2
  clear w0 w1 w2
  obtain ⟨b, hb, hb2⟩ : ∃ b : Nat, (Y : Int) % 32 = b ∧ b < 32 := ⟨Y % 32, by omega, by omega⟩
  obtain ⟨k, hk, hk2⟩ : ∃ k : Nat, (Z : Int) % 32 = k ∧ k < 32 := ⟨Z % 32, by omega, by omega⟩
  obtain ⟨A, hA⟩ : ∃ A, A = clm X b := ⟨_, rfl⟩
  obtain ⟨D, hD⟩ : ∃ D, D = drp A b := ⟨_, rfl⟩
  obtain ⟨E, hE⟩ : ∃ E, E = clm A b := ⟨_, rfl⟩
  have hA2 : A < 18446744073709551616 := by rw [hA]; exact clm_lt _ _
  have hD2 : D < 18446744073709551616 := by rw [hD]; exact drp_lt _ _
  have u1 : A.testBit b = true := by rw [hA, clm_bit X b hb2]; simp
  have u2 : D.testBit b = false := by rw [hD, drp_bit hA2 hb2 hb2]; simp
  have u3 : ¬ b = k → A.testBit k = X.testBit k := by intro h; rw [hA, clm_bit X b hk2]; simp [h]
  have u4 : ¬ b = k → D.testBit k = X.testBit k := by intro h; rw [hD, drp_bit hA2 hb2 hk2, u3 h]; simp [h]
  have q0 := cg_lt hX
  have q1 : cg A = (cg X + 1) % 4294967296 := by rw [hA]; exact cg_clm X hb2
  have q2 : cg D = (cg A + 1) % 4294967296 := by rw [hD]; exact cg_drp hA2 hb2
  have q3 : cg E = (cg A + 1) % 4294967296 := by rw [hE]; exact cg_clm A hb2
  have n1 : A ≠ X := by intro h; rw [h] at q1; omega
  have n2 : D ≠ X := by intro h; rw [h] at q2; omega
  have n3 : A ≠ D := by intro h; rw [← h] at q2; omega
  have n4 : E ≠ A := by intro h; rw [h] at q3; omega
  have p1 : IntKind.u32.wrap ((cg X : Nat) + 1) = ((cg A : Nat) : Int) := by rw [IntKind.wrap_u32]; omega
  have p2 : IntKind.u32.wrap ((cg X : Nat) + 2) = ((cg D : Nat) : Int) := by rw [IntKind.wrap_u32]; omega
  have fl1 : fl X = true → fl A = true := fun h => (fl_iff A).2 (fun j hj => by rw [hA, clm_bit X b hj, (fl_iff X).1 h j hj]; rfl)
  have m1 : ((A : Int) != X) = true := by simp; omega
  have m2 : ((D : Int) != X) = true := by simp; omega
  have m3 : ((A : Int) != D) = true := by simp; omega
  have m4 : ((E : Int) != A) = true := by simp; omega
  have C0 : ∀ w, Hid (Calls Try.prog 14 #[.int .u64 X, .int .i64 b] w fun e w' => e = .returned (.int .u64 A) ∧ w = w') := fun w => by rw [hA]; exact claim_any X b hX (by omega) w
  have C1 : ∀ w, Hid (Calls Try.prog 16 #[.int .u64 A, .int .i64 b] w fun e w' => e = .returned (.int .u64 D) ∧ w = w') := fun w => by rw [hD]; exact drop_any A b hA2 (by omega) w
  have C2 : ∀ w, Hid (Calls Try.prog 14 #[.int .u64 A, .int .i64 b] w fun e w' => e = .returned (.int .u64 E) ∧ w = w') := fun w => by rw [hE]; exact claim_any A b hA2 (by omega) w
  have C3 : ∀ w, Hid (Calls Try.prog 11 #[.int .u64 A, .int .i64 b] w fun e w' => e = .returned (.bool true) ∧ w = w') := fun w => u1 ▸ used_any A b hA2 (by omega) w
  have C4 : ∀ w, Hid (Calls Try.prog 11 #[.int .u64 D, .int .i64 b] w fun e w' => e = .returned (.bool false) ∧ w = w') := fun w => u2 ▸ used_any D b hD2 (by omega) w
  have C5 := fun w => Lib.hid (changes_any A hA2 w)
  have C6 := fun w => Lib.hid (changes_any D hD2 w)
  have C7 := fun w => Lib.hid (changes_any X hX w)
  have C8 := fun w => Lib.hid (used_any A k hA2 (by omega) w)
  have C9 := fun w => Lib.hid (used_any X k hX (by omega) w)
  have C10 := fun w => Lib.hid (used_any D k hD2 (by omega) w)
  have C11 := fun w => Lib.hid (full_any A hA2 w)
  have C12 := fun w => Lib.hid (full_any X hX w)
  have g1 : (((cg A : Nat) : Int) != ((cg A : Nat) : Int)) = false := by simp
  have g2 : (((cg D : Nat) : Int) != ((cg D : Nat) : Int)) = false := by simp
  have hf : fl A = true ∨ (fl A = false ∧ fl X = false) := by
    cases h1 : fl A with
    | true => exact .inl rfl
    | false =>
      cases h2 : fl X with
      | true => rw [fl1 h2] at h1; cases h1
      | false => exact .inr ⟨rfl, rfl⟩
  have hs : ((b : Int) != k) = false ∨ (((b : Int) != k) = true ∧ A.testBit k = X.testBit k ∧ D.testBit k = X.testBit k) := by
    by_cases h : b = k
    · exact .inl (by simp [h])
    · exact .inr ⟨by simp; omega, u3 h, u4 h⟩
  clear u1 u2 u3 u4 q1 q2 q3 n1 n2 n3 n4 fl1 hA hD hE q0
  generalize cg A = qa at *
  generalize cg D = qd at *
  generalize cg X = qx at *
  generalize A.testBit k = ta at *
  generalize D.testBit k = td at *
  generalize X.testBit k = tx at *
  generalize fl A = fa at *
  generalize fl X = fx at *
  rcases hf with rfl | ⟨rfl, rfl⟩ <;> rcases hs with s1 | ⟨s1, rfl, rfl⟩
  · go_enter Try.func5, Try.ntmps5
    go_wp2_with fail
    refine (awake_any _).mono ?_
    rintro e w1 ⟨rfl, K⟩
    go_wp2_with (first
      | ((with_reducible refine ((C0 _).out).mono ?_); rintro e w' ⟨rfl, rfl⟩)
      | ((with_reducible refine ((C1 _).out).mono ?_); rintro e w' ⟨rfl, rfl⟩)
      | ((with_reducible refine ((C2 _).out).mono ?_); rintro e w' ⟨rfl, rfl⟩)
      | ((with_reducible refine ((C3 _).out).mono ?_); rintro e w' ⟨rfl, rfl⟩)
      | ((with_reducible refine ((C4 _).out).mono ?_); rintro e w' ⟨rfl, rfl⟩)
      | ((with_reducible refine ((C5 _).out).mono ?_); rintro e w' ⟨rfl, rfl⟩)
      | ((with_reducible refine ((C6 _).out).mono ?_); rintro e w' ⟨rfl, rfl⟩)
      | ((with_reducible refine ((C7 _).out).mono ?_); rintro e w' ⟨rfl, rfl⟩)
      | ((with_reducible refine ((C8 _).out).mono ?_); rintro e w' ⟨rfl, rfl⟩)
      | ((with_reducible refine ((C9 _).out).mono ?_); rintro e w' ⟨rfl, rfl⟩)
      | ((with_reducible refine ((C10 _).out).mono ?_); rintro e w' ⟨rfl, rfl⟩)
      | ((with_reducible refine ((C11 _).out).mono ?_); rintro e w' ⟨rfl, rfl⟩)
      | ((with_reducible refine ((C12 _).out).mono ?_); rintro e w' ⟨rfl, rfl⟩))
    go_ret
    exact ⟨rfl, K⟩
  · have s2 : (td != td) = false := by simp
    go_enter Try.func5, Try.ntmps5
    go_wp2_with fail
    refine (awake_any _).mono ?_
    rintro e w1 ⟨rfl, K⟩
    go_wp2_with (first
      | ((with_reducible refine ((C0 _).out).mono ?_); rintro e w' ⟨rfl, rfl⟩)
      | ((with_reducible refine ((C1 _).out).mono ?_); rintro e w' ⟨rfl, rfl⟩)
      | ((with_reducible refine ((C2 _).out).mono ?_); rintro e w' ⟨rfl, rfl⟩)
      | ((with_reducible refine ((C3 _).out).mono ?_); rintro e w' ⟨rfl, rfl⟩)
      | ((with_reducible refine ((C4 _).out).mono ?_); rintro e w' ⟨rfl, rfl⟩)
      | ((with_reducible refine ((C5 _).out).mono ?_); rintro e w' ⟨rfl, rfl⟩)
      | ((with_reducible refine ((C6 _).out).mono ?_); rintro e w' ⟨rfl, rfl⟩)
      | ((with_reducible refine ((C7 _).out).mono ?_); rintro e w' ⟨rfl, rfl⟩)
      | ((with_reducible refine ((C8 _).out).mono ?_); rintro e w' ⟨rfl, rfl⟩)
      | ((with_reducible refine ((C9 _).out).mono ?_); rintro e w' ⟨rfl, rfl⟩)
      | ((with_reducible refine ((C10 _).out).mono ?_); rintro e w' ⟨rfl, rfl⟩)
      | ((with_reducible refine ((C11 _).out).mono ?_); rintro e w' ⟨rfl, rfl⟩)
      | ((with_reducible refine ((C12 _).out).mono ?_); rintro e w' ⟨rfl, rfl⟩))
    go_ret
    exact ⟨rfl, K⟩
  · go_enter Try.func5, Try.ntmps5
    go_wp2_with fail
    refine (awake_any _).mono ?_
    rintro e w1 ⟨rfl, K⟩
    go_wp2_with (first
      | ((with_reducible refine ((C0 _).out).mono ?_); rintro e w' ⟨rfl, rfl⟩)
      | ((with_reducible refine ((C1 _).out).mono ?_); rintro e w' ⟨rfl, rfl⟩)
      | ((with_reducible refine ((C2 _).out).mono ?_); rintro e w' ⟨rfl, rfl⟩)
      | ((with_reducible refine ((C3 _).out).mono ?_); rintro e w' ⟨rfl, rfl⟩)
      | ((with_reducible refine ((C4 _).out).mono ?_); rintro e w' ⟨rfl, rfl⟩)
      | ((with_reducible refine ((C5 _).out).mono ?_); rintro e w' ⟨rfl, rfl⟩)
      | ((with_reducible refine ((C6 _).out).mono ?_); rintro e w' ⟨rfl, rfl⟩)
      | ((with_reducible refine ((C7 _).out).mono ?_); rintro e w' ⟨rfl, rfl⟩)
      | ((with_reducible refine ((C8 _).out).mono ?_); rintro e w' ⟨rfl, rfl⟩)
      | ((with_reducible refine ((C9 _).out).mono ?_); rintro e w' ⟨rfl, rfl⟩)
      | ((with_reducible refine ((C10 _).out).mono ?_); rintro e w' ⟨rfl, rfl⟩)
      | ((with_reducible refine ((C11 _).out).mono ?_); rintro e w' ⟨rfl, rfl⟩)
      | ((with_reducible refine ((C12 _).out).mono ?_); rintro e w' ⟨rfl, rfl⟩))
    go_ret
    exact ⟨rfl, K⟩
  · have s2 : (td != td) = false := by simp
    go_enter Try.func5, Try.ntmps5
    go_wp2_with fail
    refine (awake_any _).mono ?_
    rintro e w1 ⟨rfl, K⟩
    go_wp2_with (first
      | ((with_reducible refine ((C0 _).out).mono ?_); rintro e w' ⟨rfl, rfl⟩)
      | ((with_reducible refine ((C1 _).out).mono ?_); rintro e w' ⟨rfl, rfl⟩)
      | ((with_reducible refine ((C2 _).out).mono ?_); rintro e w' ⟨rfl, rfl⟩)
      | ((with_reducible refine ((C3 _).out).mono ?_); rintro e w' ⟨rfl, rfl⟩)
      | ((with_reducible refine ((C4 _).out).mono ?_); rintro e w' ⟨rfl, rfl⟩)
      | ((with_reducible refine ((C5 _).out).mono ?_); rintro e w' ⟨rfl, rfl⟩)
      | ((with_reducible refine ((C6 _).out).mono ?_); rintro e w' ⟨rfl, rfl⟩)
      | ((with_reducible refine ((C7 _).out).mono ?_); rintro e w' ⟨rfl, rfl⟩)
      | ((with_reducible refine ((C8 _).out).mono ?_); rintro e w' ⟨rfl, rfl⟩)
      | ((with_reducible refine ((C9 _).out).mono ?_); rintro e w' ⟨rfl, rfl⟩)
      | ((with_reducible refine ((C10 _).out).mono ?_); rintro e w' ⟨rfl, rfl⟩)
      | ((with_reducible refine ((C11 _).out).mono ?_); rintro e w' ⟨rfl, rfl⟩)
      | ((with_reducible refine ((C12 _).out).mono ?_); rintro e w' ⟨rfl, rfl⟩))
    go_ret
    exact ⟨rfl, K⟩
end Go.Proofs.Ytbipjdmaoofggaa.wordClaims
