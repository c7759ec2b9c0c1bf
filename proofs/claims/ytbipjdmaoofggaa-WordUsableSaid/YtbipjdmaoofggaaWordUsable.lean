/-
  The walk of the law WordUsable: for every configuration it answers true.
-/
import Derived.Test.YtbipjdmaoofggaaWordAwake
namespace Go.Proofs.Ytbipjdmaoofggaa.wordUsable
open Go.RowKit
/-- How many offsets below o are usable. -/
def us (M : Nat) (xs : List Int) : Nat → Nat
  | 0 => 0
  | o + 1 => us M xs o + (if (decide (M ≤ o) || hasB xs (o : Int)) = true then 0 else 1)
theorem us_succ (M : Nat) (xs : List Int) (o : Nat) : us M xs (o + 1) = us M xs o + (if (decide (M ≤ o) || hasB xs (o : Int)) = true then 0 else 1) := rfl
theorem cnt_succ (X n : Nat) : cnt X (n + 1) = cnt X n + (X.testBit n).toNat := rfl
theorem cn_succ (xs : List Int) (i : Nat) : cn xs (i + 1) = cn xs i + (if hasB xs (i : Int) then 1 else 0) := rfl
theorem us_le (M : Nat) (xs : List Int) (o : Nat) : us M xs o ≤ o := by
  induction o with
  | zero => exact Nat.le_refl _
  | succ o ih => unfold us; split <;> omega
theorem us_leaf (M : Nat) (xs : List Int) (i : Nat) {b : Nat} (hb : b ≤ 32) : us M xs (32 * i + b) + cnt (nw M xs i) b = us M xs (32 * i) + b := by
  induction b with
  | zero => rfl
  | succ b ih =>
    have ih := ih (by omega)
    rw [show 32 * i + (b + 1) = (32 * i + b) + 1 by omega]
    rw [us_succ, cnt_succ, nw_bit]
    unfold nf
    have : decide (b < 32) = true := by simp; omega
    rw [this, Bool.true_and]
    cases (decide (M ≤ 32 * i + b) || hasB xs ((32 * i + b : Nat) : Int)) <;> simp <;> omega
theorem us_cn (M : Nat) (xs : List Int) {o : Nat} (h : o ≤ M) : us M xs o + cn xs o = o := by
  induction o with
  | zero => rfl
  | succ o ih =>
    have ih := ih (by omega)
    rw [us_succ, cn_succ]
    have : decide (M ≤ o) = false := by simp; omega
    rw [this, Bool.false_or]
    cases hasB xs (o : Int) <;> simp <;> omega
theorem us_past (M : Nat) (xs : List Int) (d : Nat) : us M xs (M + d) = us M xs M := by
  induction d with
  | zero => rfl
  | succ d ih =>
    have : decide (M ≤ M + d) = true := by simp
    rw [← Nat.add_assoc, us_succ, this, Bool.true_or, if_pos rfl, ih, Nat.add_zero]
theorem us_all {M : Nat} {xs : List Int} {o : Nat} (hr : risB M 0 xs = true) (h : M ≤ o) : us M xs o + xs.length = M := by
  have e : o = M + (o - M) := by omega
  rw [e, us_past]
  have := us_cn M xs (Nat.le_refl M)
  rw [cn_len hr (by omega) rfl] at this
  exact this
theorem cnt_clm (W x : Nat) (hx : x < 32) (hb : W.testBit x = false) : cnt (clm W x) 32 = cnt W 32 + 1 := by
  rw [← cnt_setb W x 32 hx hb]
  exact cnt_congr 32 (fun k hk => by rw [clm_bit W x hk, setb_bit])
theorem tpw_at {v : Nat → Nat} {L i : Nat} (h : i < L) : (tpw v L (i / 64)).testBit (i % 64) = fl (v i) := by
  unfold tpw
  rw [fw_bit, show 64 * (i / 64) + i % 64 = i by omega]
  have h1 : i % 64 < 64 := by omega
  simp [h1, h]
/-- What holds in a leaf's claims: k bits are set that weren't. -/
def Inv (V W k : Nat) : Prop := W < 18446744073709551616 ∧ cnt W 32 = cnt V 32 + k ∧ ∀ x, x < 32 → W.testBit x = false → V.testBit x = false
theorem Inv.k_le {V W k : Nat} (h : Inv V W k) : k ≤ 32 := by have := cnt_le W 32; have := h.2.1; omega
theorem Inv.next {V W k x : Nat} (h : Inv V W k) (hx : x < 32) (hb : W.testBit x = false) : Inv V (clm W x) (k + 1) :=
  ⟨clm_lt _ _, by rw [cnt_clm W x hx hb, h.2.1]; omega, fun y hy hy2 => by
    rw [clm_bit W x hy] at hy2
    have : W.testBit y = false := by
      cases e : W.testBit y with
      | false => rfl
      | true => rw [e] at hy2; simp at hy2
    exact h.2.2 y hy this⟩
theorem Inv.done {V W k : Nat} (h : Inv V W k) (hb : fb W 32 = false) : cnt V 32 + k = 32 := by
  rw [← h.2.1]; exact cnt_all 32 (f_no hb).2
section
variable {w : World} {lo a M x : Nat} {p sh wo qu tr : Int} {A : Option Addr} {n c : Nat} {xs : List Int}
theorem not_may (ha : a < 4294967296) (h : IS .i64 lo w A n c xs) (hb : confB a p n xs sh wo qu tr = false) :
    Calls Try.prog 6 #[.agg #[.int .u32 a, .int .i64 p, .slice A n c, .int .i64 sh, .int .i64 wo, .int .i64 qu, .int .i64 tr]] w fun e w' => e = .returned (.bool true) ∧ Below w.heap.size w w' := by
  have hb := Lib.hid hb
  have K := below_alloc w (.cells #[.int .u32 a, .int .i64 p, .slice A n c, .int .i64 sh, .int .i64 wo, .int .i64 qu, .int .i64 tr] 36)
  have H := Bk.new w #[.int .u32 a, .int .i64 p, .slice A n c, .int .i64 sh, .int .i64 wo, .int .i64 qu, .int .i64 tr] 36
  replace h := h.below K
  go_enter Try.func6, Try.ntmps6
  go_wp2_with fail
  generalize w.alloc (.cells #[.int .u32 a, .int .i64 p, .slice A n c, .int .i64 sh, .int .i64 wo, .int .i64 qu, .int .i64 tr] 36) = w1 at H K h ⊢
  generalize w.heap.size = g at H ⊢
  refine (awake_any _).mono ?_
  rintro e w2 ⟨rfl, K'⟩
  replace H := H.below K'
  replace h := h.below K'
  replace K := Below.then_ K K'
  clear K'
  have H_0 := H.at_ (v := .int .u32 a) 0 rfl
  have H_1 := H.at_ (v := .int .i64 p) 1 rfl
  have H_2 := H.at_ (v := .slice A n c) 2 rfl
  have H_3 := H.at_ (v := .int .i64 sh) 3 rfl
  have H_4 := H.at_ (v := .int .i64 wo) 4 rfl
  have H_5 := H.at_ (v := .int .i64 qu) 5 rfl
  have H_6 := H.at_ (v := .int .i64 tr) 6 rfl
  have H_z := H.lt
  go_wp2_with fail
  refine (rmay_is ha h hb.out).mono ?_
  rintro e w3 ⟨rfl, K'⟩
  clear H_0 H_1 H_2 H_3 H_4 H_5 H_6 H_z
  replace H := H.below K'
  replace h := h.below K'
  replace K := Below.then_ K K'
  clear K'
  go_wp2_with fail
  refine (awake_any _).mono ?_
  rintro e w4 ⟨rfl, K'⟩
  replace H := H.below K'
  replace h := h.below K'
  replace K := Below.then_ K K'
  clear K'
  go_wp2
  go_ret
  exact ⟨rfl, K⟩
theorem great (ha : a < 4294967296) (h : IS .i64 lo w A n c xs) (hM : Much a p M) (hb : confB a p n xs sh wo qu tr = true) (hm : 1024 < M) :
    Calls Try.prog 6 #[.agg #[.int .u32 a, .int .i64 p, .slice A n c, .int .i64 sh, .int .i64 wo, .int .i64 qu, .int .i64 tr]] w fun e w' => e = .returned (.bool true) ∧ Below w.heap.size w w' := by
  have hb := Lib.hid hb
  have hd : decide ((1024 : Int) < (M : Int)) = true := by simp; omega
  clear hm
  have K := below_alloc w (.cells #[.int .u32 a, .int .i64 p, .slice A n c, .int .i64 sh, .int .i64 wo, .int .i64 qu, .int .i64 tr] 36)
  have H := Bk.new w #[.int .u32 a, .int .i64 p, .slice A n c, .int .i64 sh, .int .i64 wo, .int .i64 qu, .int .i64 tr] 36
  replace h := h.below K
  go_enter Try.func6, Try.ntmps6
  go_wp2_with fail
  generalize w.alloc (.cells #[.int .u32 a, .int .i64 p, .slice A n c, .int .i64 sh, .int .i64 wo, .int .i64 qu, .int .i64 tr] 36) = w1 at H K h ⊢
  generalize w.heap.size = g at H ⊢
  refine (awake_any _).mono ?_
  rintro e w2 ⟨rfl, K'⟩
  replace H := H.below K'
  replace h := h.below K'
  replace K := Below.then_ K K'
  clear K'
  have H_0 := H.at_ (v := .int .u32 a) 0 rfl
  have H_1 := H.at_ (v := .int .i64 p) 1 rfl
  have H_2 := H.at_ (v := .slice A n c) 2 rfl
  have H_3 := H.at_ (v := .int .i64 sh) 3 rfl
  have H_4 := H.at_ (v := .int .i64 wo) 4 rfl
  have H_5 := H.at_ (v := .int .i64 qu) 5 rfl
  have H_6 := H.at_ (v := .int .i64 tr) 6 rfl
  have H_z := H.lt
  go_wp2_with fail
  refine (rmay_is ha h hb.out).mono ?_
  rintro e w3 ⟨rfl, K'⟩
  clear H_0 H_1 H_2 H_3 H_4 H_5 H_6 H_z
  replace H := H.below K'
  replace h := h.below K'
  replace K := Below.then_ K K'
  clear K'
  have H_0 := H.at_ (v := .int .u32 a) 0 rfl
  have H_1 := H.at_ (v := .int .i64 p) 1 rfl
  have H_2 := H.at_ (v := .slice A n c) 2 rfl
  have H_3 := H.at_ (v := .int .i64 sh) 3 rfl
  have H_4 := H.at_ (v := .int .i64 wo) 4 rfl
  have H_5 := H.at_ (v := .int .i64 qu) 5 rfl
  have H_6 := H.at_ (v := .int .i64 tr) 6 rfl
  have H_z := H.lt
  go_wp2_with fail
  refine (rmany_yes hM).mono ?_
  rintro e w4 ⟨rfl, K'⟩
  clear H_0 H_1 H_2 H_3 H_4 H_5 H_6 H_z
  replace H := H.below K'
  replace h := h.below K'
  replace K := Below.then_ K K'
  clear K'
  go_wp2_with fail
  refine (awake_any _).mono ?_
  rintro e w5 ⟨rfl, K'⟩
  replace H := H.below K'
  replace h := h.below K'
  replace K := Below.then_ K K'
  clear K'
  go_wp2
  go_ret
  exact ⟨rfl, K⟩
set_option maxRecDepth 100000 in
set_option maxHeartbeats 2000000 in
theorem may (ha : a < 4294967296) (h : IS .i64 lo w A n c xs) (hn : n ≤ 64) (hM : Much a p M) (hr : risB M 0 xs = true) (hb : confB a p n xs sh wo qu tr = true) (hm : M ≤ 1024) :
    Calls Try.prog 6 #[.agg #[.int .u32 a, .int .i64 p, .slice A n c, .int .i64 sh, .int .i64 wo, .int .i64 qu, .int .i64 tr]] w fun e w' => e = .returned (.bool true) ∧ Below w.heap.size w w' := by
  have hb := Lib.hid hb
  have hd : decide ((1024 : Int) < (M : Int)) = false := by simp; omega
  have hm2 := hM.most
  have hp := hM.pos
  have hlen := h.len
  have h4 : M ≤ 32 * lv M ∧ 32 * lv M < M + 32 := by unfold lv; omega
  have h1 : lv M ≤ 32 := by unfold lv; omega
  have h2 := tv_le hm2
  have h3 : lv M ≤ 64 * tv M := by unfold tv tq; omega
  have T1 := fun w => Lib.hid (rleaves_any M hm2 w)
  have T2 := fun w => Lib.hid (rcells_any M hm2 w)
  have T3 := fun i (hi : i ≤ 65536) w => Lib.hid (rtop_any M i hm2 hi w)
  have WC := fun w (h : IS .i64 lo w A n c xs) => Lib.hid (wcells_any (sh := sh) (wo := wo) (qu := qu) (tr := tr) ha hM h (by omega) hr)
  have hv := nw_lt M xs
  have UF := fun i => Lib.hid (us_leaf M xs i (b := 32) (Nat.le_refl _))
  have UL := fun o => Lib.hid (us_le M xs o)
  have UA : Hid (us M xs (32 * lv M) + n = M) := by have := us_all hr h4.1; rw [hlen] at this; exact this
  have VB : ∀ i x, Hid (x < 32 → (nw M xs i).testBit x = false → ¬ M ≤ 32 * i + x ∧ hasB xs ((32 * i + x : Nat) : Int) = false) := fun i x => by
    intro hx hb
    rw [nw_bit] at hb
    unfold nf at hb
    simp [hx] at hb
    exact ⟨by omega, by simpa using hb.2⟩
  generalize nw M xs = v at *
  generalize lv M = L at *
  generalize tv M = T at *
  obtain ⟨N, hN⟩ : ∃ N, N = L + T + 1 := ⟨_, rfl⟩
  rw [← hN] at WC T2
  have e0 : ((N : Int) != (N : Int)) = false := by simp
  have K := below_alloc w (.cells #[.int .u32 a, .int .i64 p, .slice A n c, .int .i64 sh, .int .i64 wo, .int .i64 qu, .int .i64 tr] 36)
  have H := Bk.new w #[.int .u32 a, .int .i64 p, .slice A n c, .int .i64 sh, .int .i64 wo, .int .i64 qu, .int .i64 tr] 36
  replace h := h.below K
  go_enter Try.func6, Try.ntmps6
  go_wp2_with fail
  generalize w.alloc (.cells #[.int .u32 a, .int .i64 p, .slice A n c, .int .i64 sh, .int .i64 wo, .int .i64 qu, .int .i64 tr] 36) = w1 at H K h ⊢
  generalize w.heap.size = g at H ⊢
  refine (awake_any _).mono ?_
  rintro e w2 ⟨rfl, K'⟩
  replace H := H.below K'
  replace h := h.below K'
  replace K := Below.then_ K K'
  clear K'
  have H_0 := H.at_ (v := .int .u32 a) 0 rfl
  have H_1 := H.at_ (v := .int .i64 p) 1 rfl
  have H_2 := H.at_ (v := .slice A n c) 2 rfl
  have H_3 := H.at_ (v := .int .i64 sh) 3 rfl
  have H_4 := H.at_ (v := .int .i64 wo) 4 rfl
  have H_5 := H.at_ (v := .int .i64 qu) 5 rfl
  have H_6 := H.at_ (v := .int .i64 tr) 6 rfl
  have H_z := H.lt
  go_wp2_with fail
  refine (rmay_is ha h hb.out).mono ?_
  rintro e w3 ⟨rfl, K'⟩
  clear H_0 H_1 H_2 H_3 H_4 H_5 H_6 H_z
  replace H := H.below K'
  replace h := h.below K'
  replace K := Below.then_ K K'
  clear K'
  have H_0 := H.at_ (v := .int .u32 a) 0 rfl
  have H_1 := H.at_ (v := .int .i64 p) 1 rfl
  have H_2 := H.at_ (v := .slice A n c) 2 rfl
  have H_3 := H.at_ (v := .int .i64 sh) 3 rfl
  have H_4 := H.at_ (v := .int .i64 wo) 4 rfl
  have H_5 := H.at_ (v := .int .i64 qu) 5 rfl
  have H_6 := H.at_ (v := .int .i64 tr) 6 rfl
  have H_z := H.lt
  go_wp2_with fail
  refine (rmany_yes hM).mono ?_
  rintro e w4 ⟨rfl, K'⟩
  clear H_0 H_1 H_2 H_3 H_4 H_5 H_6 H_z
  replace H := H.below K'
  replace h := h.below K'
  replace K := Below.then_ K K'
  clear K'
  have H_0 := H.at_ (v := .int .u32 a) 0 rfl
  have H_1 := H.at_ (v := .int .i64 p) 1 rfl
  have H_2 := H.at_ (v := .slice A n c) 2 rfl
  have H_3 := H.at_ (v := .int .i64 sh) 3 rfl
  have H_4 := H.at_ (v := .int .i64 wo) 4 rfl
  have H_5 := H.at_ (v := .int .i64 qu) 5 rfl
  have H_6 := H.at_ (v := .int .i64 tr) 6 rfl
  have H_z := H.lt
  go_wp2_with fail
  refine (rmany_yes hM).mono ?_
  rintro e w5 ⟨rfl, K'⟩
  clear H_0 H_1 H_2 H_3 H_4 H_5 H_6 H_z
  replace H := H.below K'
  replace h := h.below K'
  replace K := Below.then_ K K'
  clear K'
  have H_0 := H.at_ (v := .int .u32 a) 0 rfl
  have H_1 := H.at_ (v := .int .i64 p) 1 rfl
  have H_2 := H.at_ (v := .slice A n c) 2 rfl
  have H_3 := H.at_ (v := .int .i64 sh) 3 rfl
  have H_4 := H.at_ (v := .int .i64 wo) 4 rfl
  have H_5 := H.at_ (v := .int .i64 qu) 5 rfl
  have H_6 := H.at_ (v := .int .i64 tr) 6 rfl
  have H_z := H.lt
  go_wp2_with fail
  refine ((WC _ h).out).mono ?_
  rintro e w6 ⟨B, d, rfl, U, K'⟩
  clear H_0 H_1 H_2 H_3 H_4 H_5 H_6 H_z
  replace H := H.below K'
  replace h := h.below K'
  replace K := Below.then_ K K'
  clear K'
  clear WC hb hd
  have HN := Lib.hid hN
  clear hN
  go_wp2_with (first
    | ((with_reducible refine ((T1 _).out).mono ?_); rintro e w' ⟨rfl, rfl⟩)
    | ((with_reducible refine ((T2 _).out).mono ?_); rintro e w' ⟨rfl, rfl⟩))
  clear T1 T2 e0
  go_loopw [6, 7] (fun f i wr => ∃ k : Nat, k ≤ L ∧ i = .int .i64 k ∧ f = .int .i64 (us M xs (32 * k) : Nat) ∧ Below w6.heap.size w6 wr) (fun _ i _ => L - (intOf i).toNat)
  case atStart => exact ⟨0, Nat.zero_le _, rfl, rfl, Below.refl _ _⟩
  case round =>
    obtain ⟨i, hi, rfl, rfl, Kr⟩ := hrel
    have H0 := H
    have h0 := h
    have K0 := K
    have U0 := U
    replace H := H.below Kr
    replace h := h.below Kr
    replace U := U.below Kr
    replace K := Below.then_ K Kr
    by_cases hlt : i < L
    · have hu := (UL (32 * i)).out
      have hN := HN.out
      have hiT : i / 64 < T := by omega
      obtain ⟨b0, o0, rfl, _, hcs⟩ := U.cells (by omega)
      have c1 := hcs i (by omega)
      have c2 := hcs (L + i / 64) (by omega)
      clear hcs
      rw [gt_cl (by omega), cel, if_pos hlt, if_pos hlt] at c1
      rw [gt_cl_top hiT] at c2
      have C1 := fun w => T3 i (by omega) w
      have C2 : ∀ w, Hid (Calls Try.prog 12 #[.int .u64 (tpw v L (i / 64) : Nat), .int .i64 ((i % 64 : Nat))] w fun e w' => e = .returned (.bool (fl (v i))) ∧ w = w') := fun w => tpw_at (v := v) hlt ▸ rhas_any (tpw v L (i / 64)) (i % 64) (tpw_lt _ _ _) (by omega) w
      have C3 := fun w => Lib.hid (full_any (v i) (hv i) w)
      have tb : L + i / 64 < N := by omega
      have ib : i < N := by omega
      have UFi := UF i
      have VBi := VB i
      have hvi := hv i
      have hi5 : i ≤ 32 := by omega
      clear hiT hN
      generalize tpw v L (i / 64) = tw at *
      generalize L + i / 64 = tp at *
      generalize i % 64 = tbb at *
      obtain ⟨V, hV⟩ : ∃ V, V = v i := ⟨_, rfl⟩
      rw [← hV] at C2 C3 c1 UFi VBi hvi
      have HV := Lib.hid hV
      clear hV
      have e1 : (fl V != fl V) = false := by simp
      obtain ⟨q, hq⟩ : ∃ q, q = us M xs (32 * i) := ⟨_, rfl⟩
      rw [← hq] at UFi hu ⊢
      clear hq
      go_wp2_with (first
        | ((with_reducible refine ((C1 _).out).mono ?_); rintro e w' ⟨rfl, rfl⟩)
        | ((with_reducible refine ((C2 _).out).mono ?_); rintro e w' ⟨rfl, rfl⟩)
        | ((with_reducible refine ((C3 _).out).mono ?_); rintro e w' ⟨rfl, rfl⟩))
      clear C1 C2 C3 c1 c2 e1
      go_loopw [6, 8, 11] (fun f m y ws => ∃ k W : Nat, k ≤ 32 ∧ y = .int .i64 k ∧ m = .int .u64 W ∧ f = .int .i64 ((q + k : Nat)) ∧ Hid (Inv V W k) ∧ Below w6.heap.size w6 ws) (fun _ _ y _ => 33 - (intOf y).toNat)
      case atStart => exact ⟨0, V, Nat.zero_le _, rfl, rfl, rfl, Lib.hid ⟨hvi, rfl, fun _ _ h => h⟩, Kr⟩
      case round =>
        clear Kr H h U K
        obtain ⟨k, W, hk, rfl, rfl, rfl, HI, Kr⟩ := hrel
        have H := H0.below Kr
        have h := h0.below Kr
        have K := Below.then_ K0 Kr
        have hW := HI.out.1
        have C1 := fun w => Lib.hid (wfirst_any W hW w)
        cases hfb : fb W 32 with
        | false =>
          have ek := HI.out.done hfb
          have C2 := fun w => Lib.hid (full_any W hW w)
          rw [show fl W = !fb W 32 from rfl, hfb] at C2
          rw [hfb] at C1
          have eu : q + k = us M xs (32 * (i + 1)) := by have := UFi.out; rw [show 32 * (i + 1) = 32 * i + 32 by omega]; omega
          have EU := Lib.hid eu
          clear eu hfb ek
          go_wp2_with (first
            | ((with_reducible refine ((C1 _).out).mono ?_); rintro e w' ⟨rfl, rfl⟩)
            | ((with_reducible refine ((C2 _).out).mono ?_); rintro e w' ⟨rfl, rfl⟩))
          go_roundw
          case rel => exact ⟨i + 1, by omega, by go_num, by rw [← EU.out]; go_num, Kr⟩
          case measure => simp [intOf]; omega
        | true =>
          obtain ⟨f1, f2, _⟩ := f_yes hfb
          rw [hfb] at C1
          have HI2 := Lib.hid (HI.out.next f1 f2)
          obtain ⟨g1, g2⟩ := (VBi (fi W 32)).out f1 (HI.out.2.2 _ f1 f2)
          have hk2 := HI2.out.k_le
          clear hfb f2
          generalize fi W 32 = x at *
          obtain ⟨o, ho, ho2⟩ : ∃ o : Nat, (32 * (i : Int) + x) = (o : Int) ∧ 32 * i + x = o := ⟨32 * i + x, by omega, rfl⟩
          rw [ho2] at g1 g2
          have HG := Lib.hid g2
          clear g2 ho2
          have C2 := fun w => Lib.hid (claim_any W x hW (by omega) w)
          have H_0 := H.at_ (v := .int .u32 a) 0 rfl
          have H_1 := H.at_ (v := .int .i64 p) 1 rfl
          have H_2 := H.at_ (v := .slice A n c) 2 rfl
          have H_3 := H.at_ (v := .int .i64 sh) 3 rfl
          have H_4 := H.at_ (v := .int .i64 wo) 4 rfl
          have H_5 := H.at_ (v := .int .i64 qu) 5 rfl
          have H_6 := H.at_ (v := .int .i64 tr) 6 rfl
          have H_z := H.lt
          go_wp2_with ((with_reducible refine ((C1 _).out).mono ?_); rintro e w' ⟨rfl, rfl⟩)
          clear H_0 H_1 H_2 H_3 H_4 H_5 H_6 H_z
          refine (rheld_is h (by omega) HG.out).mono ?_
          rintro e wz ⟨rfl, K'⟩
          have Kz := Below.then_ Kr K'
          clear K'
          go_wp2_with ((with_reducible refine ((C2 _).out).mono ?_); rintro e w' ⟨rfl, rfl⟩)
          go_roundw
          case rel => exact ⟨k + 1, clm W x, hk2, by go_num, rfl, by go_num, HI2, Kz⟩
          case measure => simp [intOf]; omega
    · obtain rfl : L = i := by omega
      have ua := UA.out
      have e1 : IntKind.i64.wrap ((M : Int) - (n : Int)) = (M : Int) - (n : Int) := IntWalk.i64_in _ (by omega)
      have e2 : (((us M xs (32 * L) : Nat) : Int) == (M : Int) - (n : Int)) = true := by simp; omega
      clear ua
      generalize us M xs (32 * L) = q at *
      have H_0 := H.at_ (v := .int .u32 a) 0 rfl
      have H_1 := H.at_ (v := .int .i64 p) 1 rfl
      have H_2 := H.at_ (v := .slice A n c) 2 rfl
      have H_3 := H.at_ (v := .int .i64 sh) 3 rfl
      have H_4 := H.at_ (v := .int .i64 wo) 4 rfl
      have H_5 := H.at_ (v := .int .i64 qu) 5 rfl
      have H_6 := H.at_ (v := .int .i64 tr) 6 rfl
      have H_z := H.lt
      go_wp2
      go_ret
      exact ⟨rfl, K⟩
end
theorem walk (a p : Int) (A : Option Addr) (n c : Nat) (z : List Int) (sh wo qu tr : Int) (w : World) (wa : (Lit.int .u32 a).wf = true) (wr : IsRow .i64 w A n c z) :
    Calls Try.prog 6 #[.agg #[.int .u32 a, .int .i64 p, .slice A n c, .int .i64 sh, .int .i64 wo, .int .i64 qu, .int .i64 tr]] w fun e w' => e = .returned (.bool true) ∧ Below w.heap.size w w' := by
  obtain ⟨a, rfl, ha⟩ := wf_u32 wa
  obtain ⟨xs, h, _⟩ := IS.of_row wr
  cases hb : confB a p n xs sh wo qu tr with
  | false => exact not_may ha h hb
  | true =>
    have N := confB_no hb
    have hM := Much.of N.1
    have hr := N.2.2.1
    rw [hM.manyI] at hr
    by_cases hm : 2 ^ (32 - p.toNat) ≤ 1024
    · exact may ha h N.2.1 hM hr hb hm
    · exact great ha h hM hb (by omega)
end Go.Proofs.Ytbipjdmaoofggaa.wordUsable
