/-
  What Of of package model, and the document's, answer of a configuration that may be and as many cells as there are: the offsets whose bits are set and that aren't reserved; nothing that was there is otherwise.
-/
import Derived.Test.YthnmneinimlpcaaModelMay
namespace Go.Proofs.Ythnmneinimlpcaa
open Go.RowKit
/-- The same, of places beyond the block too. -/
def vf (M : Nat) (zs : List Int) (ys : List Nat) (i : Nat) : Bool := decide (i < M) && uf zs ys i
theorem os_vf {M L : Nat} {zs : List Int} {ys : List Nat} (h : M ≤ L) : os (vf M zs ys) L = os (uf zs ys) M :=
  os_congr fun i => by
    unfold vf
    simp only [Bool.and_eq_true, decide_eq_true_eq]
    exact ⟨fun g => g.2, fun g => ⟨by omega, g⟩⟩
theorem vf_is {M k b : Nat} {zs : List Int} {ys : List Nat} (hb : b < 32) : vf M zs ys (32 * k + b) = ((gt ys k).testBit b && !(nw M zs k).testBit b) := by
  rw [nw_bit]
  unfold vf uf nf
  have e1 : (32 * k + b) / 32 = k := by omega
  have e2 : (32 * k + b) % 32 = b := by omega
  have e3 : decide (b < 32) = true := decide_eq_true hb
  rw [e1, e2, e3, Bool.true_and]
  by_cases h : 32 * k + b < M
  · rw [decide_eq_true h, decide_eq_false (by omega), Bool.true_and, Bool.false_or]
  · rw [decide_eq_false h, decide_eq_true (by omega)]
    simp
section
variable {w : World} {lo a M : Nat} {p sh wo qu tr : Int} {A B : Option Addr} {n c m d : Nat} {zs : List Int} {ys : List Nat}
set_option maxHeartbeats 1000000 in
theorem mof_any (ha : a < 4294967296) (hM : Much a p M) (h : IS .i64 lo w A n c zs) (hn : n ≤ 65536) (hr : risB M 0 zs = true) (hU : US w B m d ys) (hm : lv M ≤ m) (_hm2 : m ≤ 65536) :
    Calls Try.prog 22 #[.agg #[.int .u32 a, .int .i64 p, .slice A n c, .int .i64 sh, .int .i64 wo, .int .i64 qu, .int .i64 tr], .slice B m d] w (RetI .i64 (os (uf zs ys) M) w) := by
  have hMm := hM.most
  have h4 : M ≤ 32 * lv M ∧ 32 * lv M < M + 32 := by unfold lv; omega
  have T1 := fun w => Lib.hid (leaves_any M hMm w)
  have hE := Lib.hid (os_vf (zs := zs) (ys := ys) h4.1)
  generalize lv M = L at *
  have f1 : (L : Int) ≤ m := by omega
  have f2 : decide ((m : Int) < L) = false := by simp; omega
  have K := below_alloc w (.cells #[.int .u32 a, .int .i64 p, .slice A n c, .int .i64 sh, .int .i64 wo, .int .i64 qu, .int .i64 tr] 27)
  have H := Bk.new w #[.int .u32 a, .int .i64 p, .slice A n c, .int .i64 sh, .int .i64 wo, .int .i64 qu, .int .i64 tr] 27
  replace h := h.below K
  replace hU := hU.below K
  go_enter Try.func22, Try.ntmps22
  go_wp2_with fail
  generalize w.alloc (.cells #[.int .u32 a, .int .i64 p, .slice A n c, .int .i64 sh, .int .i64 wo, .int .i64 qu, .int .i64 tr] 27) = w1 at H K h hU ⊢
  generalize w.heap.size = g at H ⊢
  refine (many_yes ha hM).mono ?_
  rintro e w2 ⟨rfl, K'⟩
  replace H := H.below K'
  replace h := h.below K'
  replace hU := hU.below K'
  replace K := Below.then_ K K'
  clear K'
  go_wp2_with ((with_reducible refine ((T1 _).out).mono ?_); rintro e w' ⟨rfl, rfl⟩)
  go_loopw [5, 16] (fun s i wr => ∃ (k q e : Nat) (C : Option Addr), k ≤ L ∧ i = .int .i64 k ∧ s = .slice C q e ∧ Hid (Ri .i64 3 wr w2.heap.size (.slice C q e) q (os (vf M zs ys) (32 * k))) ∧ Below w2.heap.size w2 wr) (fun _ i _ => L - (intOf i).toNat)
  case atStart => exact ⟨0, 0, 0, none, Nat.zero_le _, rfl, rfl, Lib.hid (Ri.nil _ _), Below.refl _ _⟩
  case round =>
    obtain ⟨k, q, e, C, hk, rfl, rfl, HR, Kr⟩ := hrel
    replace H := H.below Kr
    replace h := h.below Kr
    have K2 := Below.then_ K Kr
    clear K
    by_cases hlt : k < L
    · have hkM : 32 * k < M := by omega
      have H_0 := H.at_ (v := .int .u32 a) 0 rfl
      have H_1 := H.at_ (v := .int .i64 p) 1 rfl
      have H_2 := H.at_ (v := .slice A n c) 2 rfl
      have H_3 := H.at_ (v := .int .i64 sh) 3 rfl
      have H_4 := H.at_ (v := .int .i64 wo) 4 rfl
      have H_5 := H.at_ (v := .int .i64 qu) 5 rfl
      have H_6 := H.at_ (v := .int .i64 tr) 6 rfl
      have H_z := H.lt
      go_wp2_with fail
      refine (wnew_any ha hM h hn hr hkM).mono ?_
      rintro e w3 ⟨rfl, K'⟩
      clear H_0 H_1 H_2 H_3 H_4 H_5 H_6 H_z
      replace H := H.below K'
      replace h := h.below K'
      replace Kr := Below.then_ Kr K'
      replace K2 := Below.then_ K2 K'
      have HR2 := HR.out.below K'
      clear HR K'
      have N := nw_lt M zs k
      have hX := gt_lt hU.fit k
      have hvf := fun b hb => Lib.hid (vf_is (M := M) (k := k) (b := b) (zs := zs) (ys := ys) hb)
      generalize nw M zs k = Y at *
      obtain ⟨bb, oo, rfl, hbb, hc⟩ := hU.get (j := k) (by omega)
      generalize gt ys k = X at *
      unfold U64 at hX
      go_wp2
      go_loopw [5, 22] (fun s i wr => ∃ (b q e : Nat) (C : Option Addr), b ≤ 32 ∧ i = .int .i64 b ∧ s = .slice C q e ∧ Hid (Ri .i64 3 wr w2.heap.size (.slice C q e) q (os (vf M zs ys) (32 * k + b))) ∧ Below w2.heap.size w2 wr) (fun _ i _ => 32 - (intOf i).toNat)
      case atStart => exact ⟨0, q, _, C, Nat.zero_le _, rfl, rfl, Lib.hid HR2, Kr⟩
      case round =>
        clear HR2 Kr
        obtain ⟨b, q, e, C, hb, rfl, rfl, HR, Ks⟩ := hrel
        by_cases hlt2 : b < 32
        · have hc2 := (Ks.cell (p := ⟨bb, oo + k, none⟩) hbb).trans hc
          have hql := HR.out.len
          have hq := len_os (vf M zs ys) (32 * k + b)
          rw [hql] at hq
          have Ux := fun w => Lib.hid (used_any X b hX (by omega) w)
          have Uy := fun w => Lib.hid (used_any Y b N (by omega) w)
          have hv := (hvf b hlt2).out
          clear hvf hc hql
          cases h1 : X.testBit b with
          | false =>
            rw [h1, Bool.false_and] at hv
            have HR2 := HR.out
            rw [← os_no hv] at HR2
            replace HR2 := Lib.hid HR2
            rw [h1] at Ux
            clear h1 hv HR
            go_wp2_with ((with_reducible refine ((Ux _).out).mono ?_); rintro e w' ⟨rfl, rfl⟩)
            go_roundw
            case rel => exact ⟨b + 1, q, e, C, by omega, by go_num, rfl, HR2, Ks⟩
            case measure => simp [intOf]; omega
          | true =>
            cases h2 : Y.testBit b with
            | true =>
              rw [h1, h2] at hv
              have HR2 := HR.out
              rw [← os_no (by rw [hv]; rfl)] at HR2
              replace HR2 := Lib.hid HR2
              rw [h1] at Ux
              rw [h2] at Uy
              clear h1 h2 hv HR
              go_wp2_with (first
                | ((with_reducible refine ((Ux _).out).mono ?_); rintro e w' ⟨rfl, rfl⟩)
                | ((with_reducible refine ((Uy _).out).mono ?_); rintro e w' ⟨rfl, rfl⟩))
              go_roundw
              case rel => exact ⟨b + 1, q, e, C, by omega, by go_num, rfl, HR2, Ks⟩
              case measure => simp [intOf]; omega
            | false =>
              rw [h1, h2] at hv
              rw [h1] at Ux
              rw [h2] at Uy
              have P := fun w => Lib.hid (poff_any k b (by omega) (by omega) w)
              have hos := Lib.hid (os_yes (f := vf M zs ys) (k := 32 * k + b) (by rw [hv]; rfl))
              obtain ⟨x, hx⟩ : ∃ x : Nat, x = 32 * k + b := ⟨_, rfl⟩
              obtain ⟨i0, hi, hz0, hz1, hz2⟩ := info_parts int_info
              obtain ⟨C2, e2, w5, hap, R5, K5⟩ := run_app1 (P := Try.prog) (x := ((x : Nat) : Int)) Try.underlying25 hi hz0 hz1 (by omega) HR.out (by omega) Ks.size 25
              have HA := Lib.hid hap
              have HR2 := R5
              rw [hx, ← hos.out] at HR2
              replace HR2 := Lib.hid HR2
              have K6 := Ks.trans K5
              rw [← hx] at P
              clear h1 h2 hv HR hap R5 K5 hi hz0 hz1 hz2 hx hos
              go_wp2_with (first
                | ((with_reducible refine ((Ux _).out).mono ?_); rintro e w' ⟨rfl, rfl⟩)
                | ((with_reducible refine ((Uy _).out).mono ?_); rintro e w' ⟨rfl, rfl⟩)
                | ((with_reducible refine ((P _).out).mono ?_); rintro e w' ⟨rfl, rfl⟩)
                | (at_builtin; refine wpList_append_run rfl (.tmp 37) (.tmp 41) 25 rfl _ _ _ _ rfl rfl HA.out ?_))
              go_roundw
              case rel => exact ⟨b + 1, q + 1, e2, C2, by omega, by go_num, rfl, HR2, K6⟩
              case measure => simp [intOf]; omega
        · obtain rfl : b = 32 := by omega
          have HR2 := HR.out
          rw [show 32 * k + 32 = 32 * (k + 1) by omega] at HR2
          replace HR2 := Lib.hid HR2
          clear HR
          go_wp2
          go_roundw
          case rel => exact ⟨k + 1, q, e, C, by omega, by go_num, rfl, HR2, Ks⟩
          case measure => simp [intOf]; omega
    · obtain rfl : L = k := by omega
      rw [hE.out] at HR
      have I := Lib.hid ((HR.out.is).lower (Nat.zero_le _))
      go_wp2
      go_ret
      exact ⟨_, _, _, rfl, I.out, K2⟩
end
end Go.Proofs.Ythnmneinimlpcaa
