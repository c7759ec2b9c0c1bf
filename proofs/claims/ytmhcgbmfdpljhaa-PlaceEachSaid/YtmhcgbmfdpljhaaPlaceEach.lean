/-
  The walk of the statement PlaceEach: for every number of addresses and any two offsets the law answers true; no conditions.
-/
import Derived.Test.YtmhcgbmfdpljhaaPlaceAwake
namespace Go.Proofs.Ytmhcgbmfdpljhaa.placeEach
open Go.RowKit
set_option maxHeartbeats 4000000 in
theorem walk (a0 : Int) (a1 : Int) (a2 : Int) (w0 : (Lit.int .u16 a0).wf = true) (w1 : (Lit.int .u16 a1).wf = true) (w2 : (Lit.int .u16 a2).wf = true) (w : World) :
    Calls Try.prog 4 #[.int .u16 a0, .int .u16 a1, .int .u16 a2] w fun e w' => e = .returned (.bool true) ∧ Grown w w' := by
  obtain ⟨X, rfl, hX⟩ := wf_u16 w0
  obtain ⟨Y, rfl, hY⟩ := wf_u16 w1
  obtain ⟨Z, rfl, hZ⟩ := wf_u16 w2
  clear w0 w1 w2
  obtain ⟨n, hn, hn1, hn2⟩ : ∃ n : Nat, (X : Int) + 1 = n ∧ 1 ≤ n ∧ n ≤ 65536 := ⟨X + 1, by omega, by omega, by omega⟩
  have hL0 : n ≤ 32 * lv n ∧ 32 * lv n < n + 32 := by unfold lv; omega
  have hL2 := lv_le hn2
  obtain ⟨i, hi, hi2⟩ : ∃ i : Nat, (Y : Int) % n = i ∧ i < n := ⟨Y % n, by omega, Nat.mod_lt _ (by omega)⟩
  obtain ⟨k, hk, hk2⟩ : ∃ k : Nat, (Z : Int) % n = k ∧ k < n := ⟨Z % n, by omega, Nat.mod_lt _ (by omega)⟩
  have C0 := fun w => Lib.hid (leaves_any n hn2 w)
  have C1 := fun w => Lib.hid (leaf_any i (by omega) w)
  have C2 := fun w => Lib.hid (leaf_any k (by omega) w)
  have C3 := fun w => Lib.hid (width_any n (i / 32) hn2 (by omega) w)
  have C4 := fun w => Lib.hid (offset_any (k / 32) (k % 32) (by omega) (by omega) w)
  have hW : wd n (i / 32) = min (n - 32 * (i / 32)) 32 := rfl
  have C5 := fun x (hx : x ≤ 65536) w => Lib.hid (width_any n x hn2 hx w)
  generalize lv n = L at *
  generalize wd n (i / 32) = W at *
  obtain ⟨l, hl⟩ : ∃ R : Nat, R = i / 32 := ⟨_, rfl⟩
  obtain ⟨p, hp⟩ : ∃ R : Nat, R = i % 32 := ⟨_, rfl⟩
  obtain ⟨m, hm⟩ : ∃ R : Nat, R = k / 32 := ⟨_, rfl⟩
  obtain ⟨q, hq⟩ : ∃ R : Nat, R = k % 32 := ⟨_, rfl⟩
  rw [← hl, ← hp] at C1
  rw [← hm, ← hq] at C2
  rw [← hl] at C3
  rw [← hl] at hW
  rw [← hm, ← hq, show 32 * m + q = k by omega] at C4
  have g1 : ¬ L ≤ l := by omega
  have g2 : ¬ W ≤ p := by omega
  have G : (((l : Int) == m) = true ∧ ((p : Int) == q) = true ∧ ((i : Int) == k) = true) ∨ (((l : Int) == m) = true ∧ ((p : Int) == q) = false ∧ ((i : Int) == k) = false) ∨ (((l : Int) == m) = false ∧ ((i : Int) == k) = false) := by
    simp
    omega
  have HL0 := Lib.hid hL0
  clear hl hp hm hq hW hL0
  rcases G with ⟨b1, b2, b3⟩ | ⟨b1, b2, b3⟩ | ⟨b1, b3⟩
  all_goals
    go_enter Try.func4, Try.ntmps4
    go_wp2_with (first
      | ((with_reducible refine (awake_any _).mono ?_); rintro e w' ⟨rfl, rfl⟩)
      | ((with_reducible refine ((C0 _).out).mono ?_); rintro e w' ⟨rfl, rfl⟩)
      | ((with_reducible refine ((C1 _).out).mono ?_); rintro e w' ⟨rfl, rfl⟩)
      | ((with_reducible refine ((C2 _).out).mono ?_); rintro e w' ⟨rfl, rfl⟩)
      | ((with_reducible refine ((C3 _).out).mono ?_); rintro e w' ⟨rfl, rfl⟩)
      | ((with_reducible refine ((C4 _).out).mono ?_); rintro e w' ⟨rfl, rfl⟩))
    clear b1 b3 g1 g2 C1 C2 C3 C4
    go_loop [14, 15] (fun m i => ∃ x s : Nat, x ≤ L ∧ i = .int .i64 x ∧ m = .int .i64 s ∧ s ≤ 65536 ∧ Hid (s = min n (32 * x))) (fun _ i => L - (intOf i).toNat)
    case atStart => exact ⟨0, 0, Nat.zero_le _, rfl, rfl, by omega, Lib.hid (by omega)⟩
    case round =>
      obtain ⟨x, s, hx, rfl, rfl, hs, HS⟩ := hrel
      by_cases hlt : x < L
      · have D := fun w => C5 x (by omega) w
        have e1 : wd n x = min (n - 32 * x) 32 := rfl
        generalize wd n x = V at D e1
        have h1 : ¬ V < 1 := by have := HL0.out; omega
        have h2 : ¬ 32 < V := by omega
        obtain ⟨s', hs', hs2⟩ : ∃ s' : Nat, (s : Int) + V = s' ∧ s' = min n (32 * (x + 1)) := ⟨s + V, by omega, by have := HS.out; omega⟩
        have hs3 : s' ≤ 65536 := by omega
        have HS2 := Lib.hid hs2
        by_cases h3 : V < 32
        · have h4 : (L : Int) - 1 = x := by have := HL0.out; omega
          clear e1 hs2 HS
          go_wp2_with (first
          | ((with_reducible refine (awake_any _).mono ?_); rintro e w' ⟨rfl, rfl⟩)
          | ((with_reducible refine ((C0 _).out).mono ?_); rintro e w' ⟨rfl, rfl⟩)
          | ((with_reducible refine ((D _).out).mono ?_); rintro e w' ⟨rfl, rfl⟩))
          go_round
          case rel => exact ⟨x + 1, s', by omega, by go_num, by go_num, hs3, HS2⟩
          case measure => simp [intOf]; omega
        · clear e1 hs2 HS
          go_wp2_with (first
          | ((with_reducible refine (awake_any _).mono ?_); rintro e w' ⟨rfl, rfl⟩)
          | ((with_reducible refine ((C0 _).out).mono ?_); rintro e w' ⟨rfl, rfl⟩)
          | ((with_reducible refine ((D _).out).mono ?_); rintro e w' ⟨rfl, rfl⟩))
          go_round
          case rel => exact ⟨x + 1, s', by omega, by go_num, by go_num, hs3, HS2⟩
          case measure => simp [intOf]; omega
      · have e1 : ((s : Int) == n) = true := by have := HS.out; have := HL0.out; simp; omega
        clear HS
        go_wp2_with (first
        | ((with_reducible refine (awake_any _).mono ?_); rintro e w' ⟨rfl, rfl⟩)
        | ((with_reducible refine ((C0 _).out).mono ?_); rintro e w' ⟨rfl, rfl⟩))
        go_ret
        exact ⟨rfl, Grown.refl _⟩
end Go.Proofs.Ytmhcgbmfdpljhaa.placeEach
