/-
  The walk of the statement PlaceGrows: for every number of addresses the law answers true; no conditions.
-/
import Derived.Test.YtmhcgbmfdpljhaaPlaceAwake
namespace Go.Proofs.Ytmhcgbmfdpljhaa.placeGrows
open Go.RowKit
set_option maxHeartbeats 4000000 in
theorem walk (a0 : Int) (w0 : (Lit.int .u16 a0).wf = true) (w : World) :
    Calls Try.prog 6 #[.int .u16 a0] w fun e w' => e = .returned (.bool true) ∧ Grown w w' := by
  obtain ⟨X, rfl, hX⟩ := wf_u16 w0
  clear w0
  by_cases hx : X = 65535
  · have e1 : ((X : Int) == 65535) = true := by simp; omega
    clear hx
    go_enter Try.func6, Try.ntmps6
    go_wp2_with (first
      | ((with_reducible refine (awake_any _).mono ?_); rintro e w' ⟨rfl, rfl⟩)
)
    go_ret
    exact ⟨rfl, Grown.refl _⟩
  have e0 : ((X : Int) == 65535) = false := by simp; omega
  obtain ⟨n, hn, hn1, hn2⟩ : ∃ n : Nat, (X : Int) + 1 = n ∧ 1 ≤ n ∧ n ≤ 65535 := ⟨X + 1, by omega, by omega, by omega⟩
  obtain ⟨m, hm, hm1⟩ : ∃ m : Nat, (n : Int) + 1 = m ∧ m = n + 1 := ⟨n + 1, by omega, rfl⟩
  have hn3 : n ≤ 65536 := by omega
  have hm3 : m ≤ 65536 := by omega
  have hL : lv n = (n + 31) / 32 := rfl
  have hL' : lv m = (m + 31) / 32 := rfl
  have hT : tv n = (lv n + 63) / 64 := rfl
  have hT' : tv m = (lv m + 63) / 64 := rfl
  obtain ⟨l, hl, hl2⟩ : ∃ l : Nat, (lv n : Int) - 1 = l ∧ l = lv n - 1 := ⟨lv n - 1, by omega, rfl⟩
  have hW : wd n l = min (n - 32 * l) 32 := rfl
  have C0 := fun w => Lib.hid (leaves_any n hn3 w)
  have C1 := fun w => Lib.hid (leaves_any m hm3 w)
  have C2 := fun w => Lib.hid (tops_any n hn3 w)
  have C3 := fun w => Lib.hid (tops_any m hm3 w)
  have C4 := fun w => Lib.hid (cells_any n hn3 w)
  have C5 := fun w => Lib.hid (cells_any m hm3 w)
  have C6 := fun w => Lib.hid (width_any n l hn3 (by omega) w)
  generalize wd n l = W at *
  generalize lv n = L at *
  generalize lv m = L' at *
  generalize tv n = T at *
  generalize tv m = T' at *
  obtain ⟨R, hR⟩ : ∃ R : Nat, R = L + T + 1 := ⟨_, rfl⟩
  obtain ⟨R', hR'⟩ : ∃ R : Nat, R = L' + T' + 1 := ⟨_, rfl⟩
  rw [← hR] at C4
  rw [← hR'] at C5
  have g1 : R ≤ R' := by omega
  have g2 : T ≤ T' := by omega
  have g3 : T' ≤ T + 1 := by omega
  have g4 : T' ≤ 4000 := by omega
  have g5 : L' ≤ 4000 := by omega
  have g6 : L ≤ 4000 := by omega
  have G : (((W : Int) == 32) = true ∧ (L' : Int) - L = 1) ∨ (((W : Int) == 32) = false ∧ (L' : Int) - L = 0) := by
    simp
    omega
  clear hR hR' hL hL' hT hT' hW hl2 hm1 hx
  rcases G with ⟨b1, b2⟩ | ⟨b1, b2⟩
  all_goals
    go_enter Try.func6, Try.ntmps6
    go_wp2_with (first
      | ((with_reducible refine (awake_any _).mono ?_); rintro e w' ⟨rfl, rfl⟩)
      | ((with_reducible refine ((C0 _).out).mono ?_); rintro e w' ⟨rfl, rfl⟩)
      | ((with_reducible refine ((C1 _).out).mono ?_); rintro e w' ⟨rfl, rfl⟩)
      | ((with_reducible refine ((C2 _).out).mono ?_); rintro e w' ⟨rfl, rfl⟩)
      | ((with_reducible refine ((C3 _).out).mono ?_); rintro e w' ⟨rfl, rfl⟩)
      | ((with_reducible refine ((C4 _).out).mono ?_); rintro e w' ⟨rfl, rfl⟩)
      | ((with_reducible refine ((C5 _).out).mono ?_); rintro e w' ⟨rfl, rfl⟩)
      | ((with_reducible refine ((C6 _).out).mono ?_); rintro e w' ⟨rfl, rfl⟩))
    go_ret
    exact ⟨rfl, Grown.refl _⟩
end Go.Proofs.Ytmhcgbmfdpljhaa.placeGrows
