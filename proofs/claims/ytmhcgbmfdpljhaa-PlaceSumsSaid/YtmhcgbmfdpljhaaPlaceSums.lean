/-
  The walk of the statement PlaceSums: for every number of addresses and any two leaves the law answers true; no conditions.
-/
import Derived.Test.YtmhcgbmfdpljhaaPlaceAwake
namespace Go.Proofs.Ytmhcgbmfdpljhaa.placeSums
open Go.RowKit
set_option maxHeartbeats 4000000 in
theorem walk (a0 : Int) (a1 : Int) (a2 : Int) (w0 : (Lit.int .u16 a0).wf = true) (w1 : (Lit.int .u16 a1).wf = true) (w2 : (Lit.int .u16 a2).wf = true) (w : World) :
    Calls Try.prog 5 #[.int .u16 a0, .int .u16 a1, .int .u16 a2] w fun e w' => e = .returned (.bool true) ∧ Grown w w' := by
  obtain ⟨X, rfl, hX⟩ := wf_u16 w0
  obtain ⟨Y, rfl, hY⟩ := wf_u16 w1
  obtain ⟨Z, rfl, hZ⟩ := wf_u16 w2
  clear w0 w1 w2
  obtain ⟨n, hn, hn1, hn2⟩ : ∃ n : Nat, (X : Int) + 1 = n ∧ 1 ≤ n ∧ n ≤ 65536 := ⟨X + 1, by omega, by omega, by omega⟩
  have hL1 : 1 ≤ lv n := by unfold lv; omega
  have hL2 := lv_le hn2
  have hT : lv n ≤ 64 * tv n := by unfold tv tq; omega
  have hT2 := tv_le hn2
  have C0 := fun w => Lib.hid (leaves_any n hn2 w)
  have C5 := fun w => Lib.hid (cells_any n hn2 w)
  have C6 := fun w => Lib.hid (tops_any n hn2 w)
  obtain ⟨i, hi, hi2⟩ : ∃ i : Nat, (Y : Int) % (lv n : Nat) = i ∧ i < lv n := ⟨Y % lv n, by omega, Nat.mod_lt _ (by omega)⟩
  obtain ⟨k, hk, hk2⟩ : ∃ k : Nat, (Z : Int) % (lv n : Nat) = k ∧ k < lv n := ⟨Z % lv n, by omega, Nat.mod_lt _ (by omega)⟩
  have C1 := fun w => Lib.hid (top_any n i hn2 (by omega) w)
  have C2 := fun w => Lib.hid (top_any n k hn2 (by omega) w)
  have C3 := fun w => Lib.hid (rootof_any n i hn2 (by omega) w)
  have C4 := fun w => Lib.hid (rootof_any n k hn2 (by omega) w)
  generalize lv n = L at *
  generalize tv n = M at *
  obtain ⟨R, hR⟩ : ∃ R : Nat, R = L + M := ⟨_, rfl⟩
  obtain ⟨CC, hCC⟩ : ∃ R : Nat, R = L + M + 1 := ⟨_, rfl⟩
  obtain ⟨p, hp⟩ : ∃ R : Nat, R = i / 64 := ⟨_, rfl⟩
  obtain ⟨q, hq⟩ : ∃ R : Nat, R = k / 64 := ⟨_, rfl⟩
  obtain ⟨d, hd⟩ : ∃ R : Nat, R = i % 64 := ⟨_, rfl⟩
  obtain ⟨f, hf⟩ : ∃ R : Nat, R = k % 64 := ⟨_, rfl⟩
  obtain ⟨c, hc⟩ : ∃ R : Nat, R = L + p := ⟨_, rfl⟩
  obtain ⟨e, he⟩ : ∃ R : Nat, R = L + q := ⟨_, rfl⟩
  rw [← hp, ← hd, ← hc] at C1
  rw [← hq, ← hf, ← he] at C2
  rw [← hR, ← hp] at C3
  rw [← hR, ← hq] at C4
  rw [← hCC] at C5
  have e1 : (CC : Int) - 1 = R := by omega
  have e2 : (L : Int) + M = R := by omega
  have e3 : (R : Int) + 1 = CC := by omega
  have g1 : ¬ c < L := by omega
  have g2 : ¬ R ≤ c := by omega
  have g3 : ¬ 63 < d := by omega
  have g4 : p < M := by omega
  have g5 : CC ≤ 4000 := by omega
  have G : (((c : Int) == e) = true ∧ ((d : Int) == f) = true ∧ ((i : Int) == k) = true ∧ ((p : Int) == q) = true) ∨ (((c : Int) == e) = true ∧ ((d : Int) == f) = false ∧ ((i : Int) == k) = false ∧ ((p : Int) == q) = true) ∨ (((c : Int) == e) = false ∧ ((i : Int) == k) = false ∧ ((p : Int) == q) = false) := by
    simp
    omega
  clear hR hCC hp hq hd hf hc he hT
  rcases G with ⟨b1, b2, b3, b4⟩ | ⟨b1, b2, b3, b4⟩ | ⟨b1, b3, b4⟩
  all_goals
    go_enter Try.func5, Try.ntmps5
    go_wp2_with (first
      | ((with_reducible refine (awake_any _).mono ?_); rintro e w' ⟨rfl, rfl⟩)
      | ((with_reducible refine ((C0 _).out).mono ?_); rintro e w' ⟨rfl, rfl⟩)
      | ((with_reducible refine ((C1 _).out).mono ?_); rintro e w' ⟨rfl, rfl⟩)
      | ((with_reducible refine ((C2 _).out).mono ?_); rintro e w' ⟨rfl, rfl⟩)
      | ((with_reducible refine ((C3 _).out).mono ?_); rintro e w' ⟨rfl, rfl⟩)
      | ((with_reducible refine ((C4 _).out).mono ?_); rintro e w' ⟨rfl, rfl⟩)
      | ((with_reducible refine ((C5 _).out).mono ?_); rintro e w' ⟨rfl, rfl⟩)
      | ((with_reducible refine ((C6 _).out).mono ?_); rintro e w' ⟨rfl, rfl⟩))
    go_ret
    exact ⟨rfl, Grown.refl _⟩
end Go.Proofs.Ytmhcgbmfdpljhaa.placeSums
