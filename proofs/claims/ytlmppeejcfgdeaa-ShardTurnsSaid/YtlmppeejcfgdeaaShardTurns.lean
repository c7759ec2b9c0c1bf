/-
  The walk of the statement ShardTurns: for every number of shards, worker and ks the law answers true, and nothing that was there is otherwise; no conditions.
-/
import Derived.Test.YtlmppeejcfgdeaaShardAwake
namespace Go.Proofs.Ytlmppeejcfgdeaa.shardTurns
open Go.RowKit
theorem wf_u8 {a : Int} (h : (Lit.int .u8 a).wf = true) : ∃ X : Nat, a = X ∧ X < 256 := by
  have h' : 0 ≤ a ∧ a ≤ 255 := by simpa [Lit.wf, IntKind.min, IntKind.max, IntKind.bits, IntKind.signed] using h
  exact ⟨a.toNat, by omega, by omega⟩
theorem next_ne (x p : Nat) (hp : 1 < p) : (x + 1) % p ≠ x % p := by
  intro h
  have h1 : x % p < p := Nat.mod_lt _ (by omega)
  rw [← Nat.mod_add_mod] at h
  by_cases e : x % p + 1 < p
  · rw [Nat.mod_eq_of_lt e] at h; omega
  · rw [show x % p + 1 = p by omega, Nat.mod_self] at h; omega
set_option maxHeartbeats 2000000 in
theorem walk (a0 a1 a2 a3 : Int) (w : World) (w0 : (Lit.int .u8 a0).wf = true) (w1 : (Lit.int .u16 a1).wf = true) (w2 : (Lit.int .u16 a2).wf = true) (w3 : (Lit.int .u16 a3).wf = true) :
    Calls Try.prog 3 #[.int .u8 a0, .int .u16 a1, .int .u16 a2, .int .u16 a3] w fun e w' => e = .returned (.bool true) ∧ Below w.heap.size w w' := by
  obtain ⟨P, rfl, hP⟩ := wf_u8 w0
  obtain ⟨x, rfl, hx⟩ := wf_u16 w1
  obtain ⟨k, rfl, hk⟩ := wf_u16 w2
  obtain ⟨m, rfl, hm⟩ := wf_u16 w3
  clear w0 w1 w2 w3
  obtain ⟨q, hq, hq2⟩ : ∃ q : Nat, (P : Int) % 64 = q ∧ q < 64 := ⟨P % 64, by omega, by omega⟩
  obtain ⟨p, hp, hp1, hp2⟩ : ∃ p : Nat, (1 : Int) + q = p ∧ 1 ≤ p ∧ p ≤ 64 := ⟨q + 1, by omega, by omega, by omega⟩
  obtain ⟨xp, hxp, hxp'⟩ : ∃ n : Nat, (x : Int) + p = n ∧ n = x + p := ⟨x + p, by omega, rfl⟩
  obtain ⟨x1, hx1, hx1'⟩ : ∃ n : Nat, (x : Int) + 1 = n ∧ n = x + 1 := ⟨x + 1, by omega, rfl⟩
  obtain ⟨km, hkm, hkm'⟩ : ∃ n : Nat, (k : Int) + m = n ∧ n = k + m := ⟨k + m, by omega, rfl⟩
  obtain ⟨h, hh⟩ : ∃ h, h = x % p := ⟨_, rfl⟩
  obtain ⟨h', hh'⟩ : ∃ h, h = (x + 1) % p := ⟨_, rfl⟩
  have hhp : h < p := by rw [hh]; exact Nat.mod_lt _ hp1
  obtain ⟨a, ha⟩ : ∃ a, a = (h + k) % p := ⟨_, rfl⟩
  have hap : a < p := by rw [ha]; exact Nat.mod_lt _ hp1
  obtain ⟨b, hb⟩ : ∃ b, b = (h + km) % p := ⟨_, rfl⟩
  have C0 := fun w => Lib.hid (home_any p x hp1 hp2 (by omega) w)
  have C1 := fun w => Lib.hid (home_any p xp hp1 hp2 (by omega) w)
  have C2 := fun w => Lib.hid (home_any p x1 hp1 hp2 (by omega) w)
  have C3 := fun w => Lib.hid (from_any p h k hp1 hp2 hhp (by omega) w)
  have C4 := fun w => Lib.hid (from_any p a m hp1 hp2 hap (by omega) w)
  have C5 := fun w => Lib.hid (from_any p h km hp1 hp2 hhp (by omega) w)
  have C6 := fun w => Lib.hid (from_any p h p hp1 hp2 hhp (by omega) w)
  have E0 := fun w => Lib.hid (awake_any w)
  rw [← hh] at C0
  rw [hxp', Nat.add_mod_right, ← hh] at C1
  rw [hx1', ← hh'] at C2
  rw [← ha] at C3
  rw [show (a + m) % p = b by rw [ha, Nat.mod_add_mod, hb, hkm', Nat.add_assoc]] at C4
  rw [← hb] at C5
  rw [Nat.add_mod_right, Nat.mod_eq_of_lt hhp] at C6
  rw [← hxp'] at C1
  rw [← hx1'] at C2
  have hne : 1 < p → ((h' : Int) == h) = false := fun e => by
    have := next_ne x p e
    rw [← hh', ← hh] at this
    simp; omega
  have hb2 : b < p := by rw [hb]; exact Nat.mod_lt _ hp1
  clear hh hh' ha hb hxp' hx1' hkm'
  by_cases h1 : 1 < p
  · have h2 := hne h1
    clear hne
    go_enter Try.func3, Try.ntmps3
    go_wp2_with (first
      | ((with_reducible refine ((E0 _).out).mono ?_); rintro e w' ⟨rfl, K⟩)
      | ((with_reducible refine ((C0 _).out).mono ?_); rintro e w' ⟨rfl, rfl⟩)
      | ((with_reducible refine ((C1 _).out).mono ?_); rintro e w' ⟨rfl, rfl⟩)
      | ((with_reducible refine ((C2 _).out).mono ?_); rintro e w' ⟨rfl, rfl⟩)
      | ((with_reducible refine ((C3 _).out).mono ?_); rintro e w' ⟨rfl, rfl⟩)
      | ((with_reducible refine ((C4 _).out).mono ?_); rintro e w' ⟨rfl, rfl⟩)
      | ((with_reducible refine ((C5 _).out).mono ?_); rintro e w' ⟨rfl, rfl⟩)
      | ((with_reducible refine ((C6 _).out).mono ?_); rintro e w' ⟨rfl, rfl⟩))
    go_ret
    exact ⟨rfl, K⟩
  · clear hne
    go_enter Try.func3, Try.ntmps3
    go_wp2_with (first
      | ((with_reducible refine ((E0 _).out).mono ?_); rintro e w' ⟨rfl, K⟩)
      | ((with_reducible refine ((C0 _).out).mono ?_); rintro e w' ⟨rfl, rfl⟩)
      | ((with_reducible refine ((C1 _).out).mono ?_); rintro e w' ⟨rfl, rfl⟩)
      | ((with_reducible refine ((C2 _).out).mono ?_); rintro e w' ⟨rfl, rfl⟩)
      | ((with_reducible refine ((C3 _).out).mono ?_); rintro e w' ⟨rfl, rfl⟩)
      | ((with_reducible refine ((C4 _).out).mono ?_); rintro e w' ⟨rfl, rfl⟩)
      | ((with_reducible refine ((C5 _).out).mono ?_); rintro e w' ⟨rfl, rfl⟩)
      | ((with_reducible refine ((C6 _).out).mono ?_); rintro e w' ⟨rfl, rfl⟩))
    go_ret
    exact ⟨rfl, K⟩
end Go.Proofs.Ytlmppeejcfgdeaa.shardTurns
