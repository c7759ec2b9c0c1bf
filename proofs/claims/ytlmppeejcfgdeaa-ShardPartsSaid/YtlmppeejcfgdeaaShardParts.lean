/-
  The walk of the statement ShardParts: for every number of addresses up to 2048 and every number of shards the law answers true, and nothing that was there is otherwise; no conditions.
-/
import Derived.Test.YtlmppeejcfgdeaaShardAwake
namespace Go.Proofs.Ytlmppeejcfgdeaa.shardParts
open Go.RowKit
theorem wf_u8 {a : Int} (h : (Lit.int .u8 a).wf = true) : ∃ X : Nat, a = X ∧ X < 256 := by
  have h' : 0 ≤ a ∧ a ≤ 255 := by simpa [Lit.wf, IntKind.min, IntKind.max, IntKind.bits, IntKind.signed] using h
  exact ⟨a.toNat, by omega, by omega⟩
/-- How many of the first s shards have no leaf. -/
def em (L p s : Nat) : Nat := if L ≤ p then s - ct L p s else 0
theorem ct_next_le {L p : Nat} (hp : 1 ≤ p) (h : L ≤ p) (s : Nat) : ct L p (s + 1) ≤ ct L p s + 1 := by
  unfold ct
  have : (s + 1) * L / p ≤ (s * L + p) / p := Nat.div_le_div_right (by rw [Nat.succ_mul]; omega)
  rw [Nat.add_div_right _ hp] at this
  exact this
theorem ct_next_ge {L p : Nat} (hp : 1 ≤ p) (h : p ≤ L) (s : Nat) : ct L p s + 1 ≤ ct L p (s + 1) := by
  unfold ct
  have : (s * L + p) / p ≤ (s + 1) * L / p := Nat.div_le_div_right (by rw [Nat.succ_mul]; omega)
  rw [Nat.add_div_right _ hp] at this
  exact this
theorem ct_le_s {L p : Nat} (hp : 1 ≤ p) (h : L ≤ p) (s : Nat) : ct L p s ≤ s := by
  unfold ct
  have : s * L / p ≤ s * p / p := Nat.div_le_div_right (Nat.mul_le_mul_left s h)
  rw [Nat.mul_div_cancel _ hp] at this
  exact this
theorem em_eq {L p s : Nat} (hp : 1 ≤ p) (h : ct L p s = ct L p (s + 1)) : em L p (s + 1) = em L p s + 1 := by
  have hl : L ≤ p := Classical.byContradiction fun e => by have := ct_next_ge (L := L) hp (by omega) s; omega
  have := ct_le_s hp hl s
  unfold em
  rw [if_pos hl, if_pos hl]
  omega
theorem em_ne {L p s : Nat} (hp : 1 ≤ p) (h : ct L p s ≠ ct L p (s + 1)) : em L p (s + 1) = em L p s := by
  unfold em
  by_cases hl : L ≤ p
  · have h1 := ct_next_le hp hl s
    have h2 : ct L p s ≤ ct L p (s + 1) := ct_mono (by omega)
    rw [if_pos hl, if_pos hl]
    omega
  · rw [if_neg hl, if_neg hl]
theorem em_all {L p : Nat} (hp : 1 ≤ p) : em L p p = p - L := by
  unfold em
  rw [ct_all hp]
  split <;> omega
theorem em_le (L p s : Nat) : em L p s ≤ s := by
  unfold em
  split <;> omega
set_option maxHeartbeats 2000000 in
theorem walk (a0 a1 : Int) (w : World) (w0 : (Lit.int .u16 a0).wf = true) (w1 : (Lit.int .u8 a1).wf = true) :
    Calls Try.prog 4 #[.int .u16 a0, .int .u8 a1] w fun e w' => e = .returned (.bool true) ∧ Below w.heap.size w w' := by
  obtain ⟨X, rfl, hX⟩ := wf_u16 w0
  obtain ⟨P, rfl, hP⟩ := wf_u8 w1
  clear w0 w1
  obtain ⟨y, hy, hy2⟩ : ∃ q : Nat, (X : Int) % 2048 = q ∧ q < 2048 := ⟨X % 2048, by omega, by omega⟩
  obtain ⟨n, hn, hn1, hn2⟩ : ∃ p : Nat, (1 : Int) + y = p ∧ 1 ≤ p ∧ p ≤ 2048 := ⟨y + 1, by omega, by omega, by omega⟩
  obtain ⟨q, hq, hq2⟩ : ∃ q : Nat, (P : Int) % 64 = q ∧ q < 64 := ⟨P % 64, by omega, by omega⟩
  obtain ⟨p, hp, hp1, hp2⟩ : ∃ p : Nat, (1 : Int) + q = p ∧ 1 ≤ p ∧ p ≤ 64 := ⟨q + 1, by omega, by omega, by omega⟩
  have E0 := fun w => Lib.hid (awake_any w)
  have hL1 : 1 ≤ lv n ∧ lv n ≤ 64 := by unfold lv; omega
  have C0 := fun w => Lib.hid (rleaves_any n (by omega) w)
  have C1 : ∀ w, Hid (Calls Try.prog 9 #[.int .i64 n, .int .i64 1, .int .i64 0] w (RetII 0 (lv n) w)) := fun w => by
    have := range_any n 1 0 (by omega) (by omega) (by omega) (by omega) w
    rw [ct_zero, ct_all (by omega)] at this
    exact this
  have cs : ∀ s, ct (lv n) (lv n) s = s := fun s => Nat.mul_div_cancel s hL1.1
  have C2 : ∀ s, s < lv n → ∀ w, Hid (Calls Try.prog 9 #[.int .i64 n, .int .i64 (lv n), .int .i64 s] w (RetII s (s + 1) w)) := fun s hs w => by
    have := range_any n (lv n) s (by omega) hL1.1 hL1.2 hs w
    rw [cs, cs] at this
    exact this
  have C3 : ∀ s, s < lv n → ∀ w, Hid (Calls Try.prog 10 #[.int .i64 n, .int .i64 (lv n), .int .i64 s] w fun e w' => e = .returned (.int .i64 s) ∧ Below w.heap.size w w') := fun s hs w =>
    of_any n (lv n) s s (by omega) hL1.1 hL1.2 hs (by rw [cs]; omega) (by rw [cs]; omega) w
  have C4 := fun s (hs : s < p) w => Lib.hid (range_any n p s (by omega) hp1 hp2 hs w)
  have m1 := fun s => @em_eq (lv n) p s hp1
  have m2 := fun s => @em_ne (lv n) p s hp1
  have m3 := em_all (L := lv n) hp1
  have m4 := em_le (lv n) p
  have m0 : em (lv n) p 0 = 0 := by have := m4 0; omega
  generalize ct (lv n) p = f at *
  generalize em (lv n) p = g at *
  clear cs
  generalize lv n = L at *
  obtain ⟨hLa, hLb⟩ := hL1
  have hd : decide ((L : Int) ≤ 64) = true := by simp; omega
  have M1 := Lib.hid m1
  have M2 := Lib.hid m2
  have M4 := Lib.hid m4
  have M3 := Lib.hid m3
  clear m1 m2 m3 m4
  go_enter Try.func4, Try.ntmps4
  go_wp2_with (first
    | ((with_reducible refine ((E0 _).out).mono ?_); rintro e w2 ⟨rfl, K⟩)
    | ((with_reducible refine ((C0 _).out).mono ?_); rintro e w2 ⟨rfl, rfl⟩)
    | ((with_reducible refine ((C1 _).out).mono ?_); rintro e w3 ⟨rfl, K2⟩))
  replace K := Below.then_ K K2
  clear K2
  go_loopw [9] (fun i wr => ∃ k : Nat, k ≤ L ∧ i = .int .i64 k ∧ Below w.heap.size w wr) (fun i _ => L - (intOf i).toNat)
  case atStart => exact ⟨0, Nat.zero_le _, rfl, K⟩
  case round =>
    obtain ⟨k, hk, rfl, HK⟩ := hrel
    clear K
    by_cases hlt : k < L
    · have D2 := C2 k hlt
      have D3 := C3 k hlt
      go_wp2_with (first
        | ((with_reducible refine ((D2 _).out).mono ?_); rintro e w4 ⟨rfl, K2⟩)
        | ((with_reducible refine ((D3 _).out).mono ?_); rintro e w5 ⟨rfl, K3⟩))
      go_roundw
      case rel => exact ⟨k + 1, by omega, by go_num, Below.then_ HK (Below.then_ K2 K3)⟩
      case measure => simp [intOf]; omega
    · obtain rfl : k = L := by omega
      go_wp2
      simp only [hq]
      clear hq
      go_loopw [13, 14] (fun v i wr => ∃ k : Nat, k ≤ p ∧ i = .int .i64 k ∧ v = .int .i64 (g k) ∧ Below w.heap.size w wr) (fun _ i _ => p - (intOf i).toNat)
      case atStart => exact ⟨0, Nat.zero_le _, rfl, by rw [m0]; rfl, HK⟩
      case round =>
        obtain ⟨s, hs, rfl, rfl, HR⟩ := hrel
        clear HK
        by_cases hsp : s < p
        · have D4 := C4 s hsp
          have gl := M4.out s
          by_cases he : f s = f (s + 1)
          · have b1 : ((f s : Int) == (f (s + 1) : Nat)) = true := by simp [he]
            have g1 := M1.out s he
            have G1 := Lib.hid g1
            clear he g1
            go_wp2_with ((with_reducible refine ((D4 _).out).mono ?_); rintro e w4 ⟨rfl, K2⟩)
            go_roundw
            case rel => exact ⟨s + 1, by omega, by go_num, by rw [G1.out]; go_num, Below.then_ HR K2⟩
            case measure => simp [intOf]; omega
          · have b1 : ((f s : Int) == (f (s + 1) : Nat)) = false := by simp; omega
            have g1 := M2.out s he
            have G1 := Lib.hid g1
            clear he g1
            go_wp2_with ((with_reducible refine ((D4 _).out).mono ?_); rintro e w4 ⟨rfl, K2⟩)
            go_roundw
            case rel => exact ⟨s + 1, by omega, by go_num, by rw [G1.out], Below.then_ HR K2⟩
            case measure => simp [intOf]; omega
        · obtain rfl : s = p := by omega
          have m3 := M3.out
          obtain ⟨G, hG⟩ : ∃ G, G = g s := ⟨_, rfl⟩
          rw [← hG] at m3 ⊢
          go_wp2
          all_goals
            go_ret
            exact ⟨ret_bool (by simp; omega), HR⟩
end Go.Proofs.Ytlmppeejcfgdeaa.shardParts
