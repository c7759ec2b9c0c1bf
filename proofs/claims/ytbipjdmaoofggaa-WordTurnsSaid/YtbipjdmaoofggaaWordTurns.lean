/-
  The walk of the law WordTurns: for every word and list of deeds it answers true.
-/
import Derived.Test.YtbipjdmaoofggaaWordAwake
namespace Go.Proofs.Ytbipjdmaoofggaa.wordTurns
open Go.RowKit
/-- The word behind k deeds. -/
def tw (X : Nat) (f : Nat → Nat) : Nat → Nat
  | 0 => X
  | k + 1 => if f k / 32 % 2 = 0 then clm (tw X f k) (f k % 32) else drp (tw X f k) (f k % 32)
/-- The bit b behind k deeds. -/
def wt (X : Nat) (f : Nat → Nat) (b : Nat) : Nat → Bool
  | 0 => X.testBit b
  | k + 1 => if f k % 32 = b then decide (f k / 32 % 2 = 0) else wt X f b k
theorem tw_lt {X : Nat} (f : Nat → Nat) (hX : X < 18446744073709551616) (k : Nat) : tw X f k < 18446744073709551616 := by
  cases k with
  | zero => exact hX
  | succ k =>
    unfold tw
    split
    · exact clm_lt _ _
    · exact drp_lt _ _
theorem tw_cg {X : Nat} (f : Nat → Nat) (hX : X < 18446744073709551616) (k : Nat) : cg (tw X f k) = (cg X + k) % 4294967296 := by
  induction k with
  | zero => have := cg_lt hX; show cg X = _; omega
  | succ k ih =>
    unfold tw
    split
    · rw [cg_clm _ (by omega), ih]; omega
    · rw [cg_drp (tw_lt f hX k) (by omega), ih]; omega
theorem tw_bit {X : Nat} (f : Nat → Nat) (hX : X < 18446744073709551616) {b : Nat} (hb : b < 32) (k : Nat) : (tw X f k).testBit b = wt X f b k := by
  induction k with
  | zero => rfl
  | succ k ih =>
    unfold tw wt
    by_cases h : f k / 32 % 2 = 0
    · rw [if_pos h, clm_bit _ _ hb, ih]
      by_cases e : f k % 32 = b
      · simp [e, h]
      · simp [e]
    · rw [if_neg h, drp_bit (tw_lt f hX k) (by omega) hb, ih]
      by_cases e : f k % 32 = b
      · simp [e, h]
      · simp [e]
theorem tw_claim {X : Nat} {f : Nat → Nat} {k b q : Nat} (hb : f k % 32 = b) (hq : f k / 32 = q) (h : q % 2 = 0) : clm (tw X f k) b = tw X f (k + 1) := by
  rw [tw, hq, if_pos h, hb]
theorem tw_drop {X : Nat} {f : Nat → Nat} {k b q : Nat} (hb : f k % 32 = b) (hq : f k / 32 = q) (h : ¬ q % 2 = 0) : drp (tw X f k) b = tw X f (k + 1) := by
  rw [tw, hq, if_neg h, hb]
theorem wt_hit {X : Nat} {f : Nat → Nat} {k b q : Nat} {v : Bool} (hb : f k % 32 = b) (hq : f k / 32 = q) (h : decide (q % 2 = 0) = v) : wt X f b (k + 1) = v := by
  rw [wt, hq, if_pos hb, h]
theorem wt_miss {X : Nat} {f : Nat → Nat} {k b : Nat} (hb : ¬ f k % 32 = b) : wt X f b (k + 1) = wt X f b k := by
  rw [wt, if_neg hb]
theorem many (X : Nat) (A : Option Addr) (n c : Nat) (w : World) (hn : 100 < n) :
    Calls Try.prog 7 #[.int .u64 X, .slice A n c] w fun e w' => e = .returned (.bool true) ∧ Below w.heap.size w w' := by
  have hd : decide ((100 : Int) < (n : Int)) = true := by simp; omega
  go_enter Try.func7, Try.ntmps7
  go_wp2_with fail
  refine (awake_any _).mono ?_
  rintro e w1 ⟨rfl, K⟩
  go_wp2_with fail
  refine (awake_any _).mono ?_
  rintro e w2 ⟨rfl, K'⟩
  go_wp2
  go_ret
  exact ⟨rfl, Below.then_ K K'⟩
set_option maxHeartbeats 2000000 in
theorem few (X : Nat) (A : Option Addr) (n c : Nat) (w : World) (xs : List Int) (hX : X < 18446744073709551616) (h : IS .u8 0 w A n c xs) (hx : ∀ x ∈ xs, (Lit.int .u8 x).wf = true) (hn : n ≤ 100) :
    Calls Try.prog 7 #[.int .u64 X, .slice A n c] w fun e w' => e = .returned (.bool true) ∧ Below w.heap.size w w' := by
  have hd : decide ((100 : Int) < (n : Int)) = false := by simp; omega
  have hl := h.len
  obtain ⟨f, hf⟩ : ∃ f : Nat → Nat, f = fun k => (gi xs k).toNat := ⟨_, rfl⟩
  have hg : Hid (∀ k, k < n → gi xs k = (f k : Int) ∧ f k < 256) := fun k hk => by
    obtain ⟨D, h1, h2⟩ := wf_u8 (hx _ (gi_mem (xs := xs) (j := k) (by omega)))
    rw [hf]
    show gi xs k = ((gi xs k).toNat : Int) ∧ (gi xs k).toNat < 256
    omega
  clear hf hx
  have HT := fun k => Lib.hid (tw_lt f hX k)
  have E1 := Lib.hid (tw_cg f hX n)
  have E2 := Lib.hid (fun b (hb : b < 32) => tw_bit f hX hb n)
  go_enter Try.func7, Try.ntmps7
  go_wp2_with fail
  refine (awake_any _).mono ?_
  rintro e w1 ⟨rfl, K⟩
  replace h := h.below K
  go_wp2_with fail
  clear hd
  go_loop [5, 6] (fun m i => ∃ k : Nat, k ≤ n ∧ i = .int .i64 k ∧ m = .int .u64 (tw X f k)) (fun _ i => n - (intOf i).toNat)
  case atStart => exact ⟨0, Nat.zero_le _, rfl, rfl⟩
  case round =>
    obtain ⟨k, hk, rfl, rfl⟩ := hrel
    by_cases hlt : k < n
    · obtain ⟨bb, oo, rfl, _, hc⟩ := h.get hlt
      obtain ⟨g1, g2⟩ := hg.out k hlt
      rw [g1] at hc
      obtain ⟨b, hb, hb2⟩ : ∃ b : Nat, (f k : Int) % 32 = b ∧ f k % 32 = b := ⟨f k % 32, by omega, rfl⟩
      obtain ⟨q, hq, hq2⟩ : ∃ q : Nat, (f k : Int) / 32 = q ∧ f k / 32 = q := ⟨f k / 32, by omega, rfl⟩
      have hb3 : b < 32 := by omega
      have hq3 : q < 256 := by omega
      by_cases he : q % 2 = 0
      · have S := Lib.hid (tw_claim (X := X) (f := f) hb2 hq2 he)
        have C := fun w => Lib.hid (claim_any (tw X f k) b (HT k).out (by omega) w)
        have e1 : (((q : Int) % 2) == 0) = true := by simp; omega
        clear hb2 hq2 he g1
        generalize f k = D at *
        go_wp2_with (first
          | ((with_reducible refine ((C _).out).mono ?_); rintro e w' ⟨rfl, rfl⟩))
        go_round
        case rel => exact ⟨k + 1, by omega, by go_num, by rw [S.out]⟩
        case measure => simp [intOf]; omega
      · have S := Lib.hid (tw_drop (X := X) (f := f) hb2 hq2 he)
        have C := fun w => Lib.hid (drop_any (tw X f k) b (HT k).out (by omega) w)
        have e1 : (((q : Int) % 2) == 0) = false := by simp; omega
        clear hb2 hq2 he g1
        generalize f k = D at *
        go_wp2_with (first
          | ((with_reducible refine ((C _).out).mono ?_); rintro e w' ⟨rfl, rfl⟩))
        go_round
        case rel => exact ⟨k + 1, by omega, by go_num, by rw [S.out]⟩
        case measure => simp [intOf]; omega
    · obtain rfl : n = k := by omega
      have C1 := fun w => Lib.hid (changes_any (tw X f n) (HT n).out w)
      have C2 := fun w => Lib.hid (changes_any X hX w)
      have q0 := cg_lt hX
      have e0 : IntKind.u32.wrap (((cg X : Nat) : Int) + n) = ((cg (tw X f n) : Nat) : Int) := by rw [IntKind.wrap_u32, E1.out]; omega
      have e1 : (((cg (tw X f n) : Nat) : Int) != ((cg (tw X f n) : Nat) : Int)) = false := by simp
      generalize cg (tw X f n) = qa at *
      generalize cg X = qx at *
      go_wp2_with (first
        | ((with_reducible refine ((C1 _).out).mono ?_); rintro e w' ⟨rfl, rfl⟩)
        | ((with_reducible refine ((C2 _).out).mono ?_); rintro e w' ⟨rfl, rfl⟩))
      clear C1 C2 e0 e1
      go_loop [8] (fun i => ∃ b : Nat, b ≤ 32 ∧ i = .int .i64 b) (fun i => 32 - (intOf i).toNat)
      case atStart => exact ⟨0, Nat.zero_le _, rfl⟩
      case round =>
        obtain ⟨b, hb, rfl⟩ := hrel
        by_cases hlt2 : b < 32
        · have C3 := fun w => Lib.hid (used_any X b hX (by omega) w)
          go_wp2_with (first
            | ((with_reducible refine ((C3 _).out).mono ?_); rintro e w' ⟨rfl, rfl⟩))
          clear C3
          go_loop [9, 10] (fun m i => ∃ k : Nat, k ≤ n ∧ i = .int .i64 k ∧ m = .bool (wt X f b k)) (fun _ i => n - (intOf i).toNat)
          case atStart => exact ⟨0, Nat.zero_le _, rfl, rfl⟩
          case round =>
            obtain ⟨k, hk, rfl, rfl⟩ := hrel
            by_cases hlt3 : k < n
            · obtain ⟨bb, oo, rfl, _, hc⟩ := h.get hlt3
              obtain ⟨g1, g2⟩ := hg.out k hlt3
              rw [g1] at hc
              obtain ⟨r, hr, hr2⟩ : ∃ r : Nat, (f k : Int) % 32 = r ∧ f k % 32 = r := ⟨f k % 32, by omega, rfl⟩
              obtain ⟨q, hq, hq2⟩ : ∃ q : Nat, (f k : Int) / 32 = q ∧ f k / 32 = q := ⟨f k / 32, by omega, rfl⟩
              have hq3 : q < 256 := by omega
              by_cases hrb : r = b
              · have S := Lib.hid (wt_hit (X := X) (v := ((q : Int) % 2 == 0)) (hr2.trans hrb) hq2 (by rw [Bool.eq_iff_iff]; simp; omega))
                have e1 : ((r : Int) == b) = true := by simp [hrb]
                clear hr2 hq2 g1 hrb
                generalize f k = D at *
                go_wp2
                go_round
                case rel => exact ⟨k + 1, by omega, by go_num, by rw [S.out]⟩
                case measure => simp [intOf]; omega
              · have S := Lib.hid (wt_miss (X := X) (f := f) (k := k) (b := b) (by omega))
                have e1 : ((r : Int) == b) = false := by simp; omega
                clear hr2 hq2 g1 hrb
                generalize f k = D at *
                go_wp2
                go_round
                case rel => exact ⟨k + 1, by omega, by go_num, by rw [S.out]⟩
                case measure => simp [intOf]; omega
            · obtain rfl : n = k := by omega
              have C4 := fun w => Lib.hid (used_any (tw X f n) b (HT n).out (by omega) w)
              rw [E2.out b hlt2] at C4
              generalize wt X f b n = v at *
              have e1 : (v != v) = false := by simp
              go_wp2_with (first
                | ((with_reducible refine ((C4 _).out).mono ?_); rintro e w' ⟨rfl, rfl⟩))
              go_round
              case rel => exact ⟨b + 1, by omega, by go_num⟩
              case measure => simp [intOf]; omega
        · go_wp2
          go_ret
          exact ⟨rfl, K⟩
theorem walk (a0 : Int) (a1 : Option Addr) (len1 cap1 : Nat) (z1 : List Int) (w : World) (w0 : (Lit.int .u64 a0).wf = true) (w1 : IsRow .u8 w a1 len1 cap1 z1) :
    Calls Try.prog 7 #[.int .u64 a0, .slice a1 len1 cap1] w fun e w' => e = .returned (.bool true) ∧ Below w.heap.size w w' := by
  obtain ⟨X, rfl, hX⟩ := wf_u64 w0
  obtain ⟨xs, h, hx⟩ := IS.of_row w1
  by_cases hn : len1 ≤ 100
  · exact few X a1 len1 cap1 w xs hX h hx hn
  · exact many X a1 len1 cap1 w (by omega)
end Go.Proofs.Ytbipjdmaoofggaa.wordTurns
