/-
  What the document's own Cells answers of a configuration that may be: the first cells; nothing that was there is otherwise.
-/
import Derived.Test.YtbipjdmaoofggaaWordCells
namespace Go.Proofs.Ytbipjdmaoofggaa
open Go.RowKit
theorem map_uv (xs : List Nat) : xs.map uv = (xs.map Int.ofNat).map (iv .u64) := by
  rw [List.map_map]; rfl
theorem gi_of (xs : List Nat) (j : Nat) : gi (xs.map Int.ofNat) j = ((gt xs j : Nat) : Int) := by
  unfold gi gt
  rw [List.getD_eq_getElem?_getD, List.getD_eq_getElem?_getD, List.getElem?_map]
  cases xs[j]? <;> rfl
/-- A row of the call's own: a value that reads as these words, in blocks from base on. -/
def Rw (w : World) (base : Nat) (v : Value) (n : Nat) (xs : List Nat) : Prop := w.ownsRow base 22 1 v n (xs.map uv)
theorem Rw.nil (w : World) (base : Nat) : Rw w base (.slice none 0 0) 0 [] := World.ownsRow_nil w base 22 1
theorem Rw.below {w w' : World} {base n : Nat} {v : Value} {xs : List Nat} (h : Rw w base v n xs) (K : Below w.heap.size w w') : Rw w' base v n xs := own_below h K
theorem Rw.us {w : World} {base n c : Nat} {A : Option Addr} {xs : List Nat} (h : Rw w base (.slice A n c) n xs) (hf : ∀ x ∈ xs, x < U64) : US w A n c xs := by
  unfold Rw at h
  rw [map_uv] at h
  obtain ⟨A', c', e, I⟩ := IS.of_own h
  injection e with e1 e2 e3
  subst e1; subst e3
  refine ⟨by simpa using I.len, I.cap, I.most, I.nil_, hf, fun hn => ?_⟩
  obtain ⟨b, o, e, _, hlt, hc⟩ := I.cells hn
  exact ⟨b, o, e, hlt, fun j hj => by rw [hc j hj, gi_of]⟩
theorem Rw.app {w : World} {base n c x : Nat} {A : Option Addr} {xs : List Nat} (h : Rw w base (.slice A n c) n xs) (hn : n + 1 ≤ 65536) (hb : base ≤ w.heap.size) :
    ∃ A' c' w', (Builtin.append_ #[43, 43] 43 #[.slice A n c, .slice (some ⟨w.heap.size, 0, none⟩) 1 1]).run Try.prog (w.alloc (.cells #[.int .u64 x] 22)) = .ok (.slice A' (n + 1) c') w' ∧ Rw w' base (.slice A' (n + 1) c') (n + 1) (xs ++ [x]) ∧ Below base w w' := by
  obtain ⟨i0, hi, hz0, hz1, hz2⟩ := info_parts u64_info
  have K0 := below_alloc w (.cells #[.int .u64 x] 22)
  have hs := gone (k := .u64) (w := w.alloc (.cells #[.int .u64 x] 22)) (x := (x : Int)) (g := w.heap.size) (cell_new w _ _) (by unfold maxLen; omega)
  have h2 := own_below h K0
  rw [map_uv] at h2
  obtain ⟨A', c', w', hr, O, G, _⟩ := run_append_onto (P := Try.prog) Try.underlying43 hi hz0 hz1 hz2 h2 hs hn (Nat.le_trans hb K0.size) 43
  refine ⟨A', c', w', hr, ?_, ?_⟩
  · unfold Rw
    rw [map_uv, List.map_append]
    exact O
  · exact (K0.mono hb).grown G (Nat.le_trans hb K0.size) (own_ge h2)
set_option maxHeartbeats 1000000 in
theorem rcells7_any {w : World} {lo a M : Nat} {p sh wo qu tr : Int} {A : Option Addr} {n c : Nat} {xs : List Int} (hM : Much a p M) (h : IS .i64 lo w A n c xs) (hn : n ≤ 65536) :
    Calls Try.prog 27 #[.agg #[.int .u32 a, .int .i64 p, .slice A n c, .int .i64 sh, .int .i64 wo, .int .i64 qu, .int .i64 tr]] w (RetS (lv M + tv M + 1) (dc (nw M xs) (lv M) (tv M) (lv M + tv M + 1)) w) := by
  have hm := hM.most
  have h1 := lv_le hm
  have h2 := tv_le hm
  have h4 : M ≤ 32 * lv M ∧ 32 * lv M < M + 32 := by unfold lv; omega
  have T1 := fun w => Lib.hid (rleaves_any M hm w)
  have T2 := fun w => Lib.hid (rtops_any M hm w)
  have hv := nw_lt M xs
  generalize lv M = L at *
  generalize tv M = T at *
  have K := below_alloc w (.cells #[.int .u32 a, .int .i64 p, .slice A n c, .int .i64 sh, .int .i64 wo, .int .i64 qu, .int .i64 tr] 36)
  have H := Bk.new w #[.int .u32 a, .int .i64 p, .slice A n c, .int .i64 sh, .int .i64 wo, .int .i64 qu, .int .i64 tr] 36
  replace h := h.below K
  go_enter Try.func27, Try.ntmps27
  go_wp2_with fail
  generalize w.alloc (.cells #[.int .u32 a, .int .i64 p, .slice A n c, .int .i64 sh, .int .i64 wo, .int .i64 qu, .int .i64 tr] 36) = w1 at H K h ⊢
  generalize w.heap.size = g at H ⊢
  refine (rmany_yes hM).mono ?_
  rintro e w2 ⟨rfl, K'⟩
  replace H := H.below K'
  replace h := h.below K'
  replace K := Below.then_ K K'
  clear K'
  go_wp2_with (first
    | ((with_reducible refine ((T1 _).out).mono ?_); rintro e w' ⟨rfl, rfl⟩)
    | ((with_reducible refine ((T2 _).out).mono ?_); rintro e w' ⟨rfl, rfl⟩))
  clear T1 T2
  have K0 := K
  go_loopw [6, 7] (fun o i wr => ∃ (k : Nat) (B : Option Addr) (d : Nat), k ≤ L ∧ i = .int .i64 k ∧ o = .slice B k d ∧ Hid (Rw wr w2.heap.size (.slice B k d) k (dc (nw M xs) L T k)) ∧ Below w2.heap.size w2 wr) (fun _ i _ => L - (intOf i).toNat)
  case atStart => exact ⟨0, none, 0, Nat.zero_le _, rfl, rfl, Lib.hid (Rw.nil _ _), Below.refl _ _⟩
  case round =>
    obtain ⟨k, B, d, hk, rfl, rfl, HB, Kr⟩ := hrel
    by_cases hlt : k < L
    · have hkM : 32 * k < M := by omega
      replace H := H.below Kr
      replace h := h.below Kr
      have K2 := Below.then_ K Kr
      clear K
      have K := K2
      clear K2
      have H_0 := H.at_ (v := .int .u32 a) 0 rfl
      have H_1 := H.at_ (v := .int .i64 p) 1 rfl
      have H_2 := H.at_ (v := .slice A n c) 2 rfl
      have H_3 := H.at_ (v := .int .i64 sh) 3 rfl
      have H_4 := H.at_ (v := .int .i64 wo) 4 rfl
      have H_5 := H.at_ (v := .int .i64 qu) 5 rfl
      have H_6 := H.at_ (v := .int .i64 tr) 6 rfl
      have H_z := H.lt
      go_wp2_with fail
      refine (rnew_any hM h hn hkM).mono ?_
      rintro e w6 ⟨rfl, K6⟩
      clear H_0 H_1 H_2 H_3 H_4 H_5 H_6 H_z
      have K' := K6
      replace H := H.below K'
      replace h := h.below K'
      replace Kr := Below.then_ Kr K'
      replace K := Below.then_ K K'
      clear K'
      have hsz := Kr.size
      obtain ⟨B', d', w7, hap, R7, K7⟩ := (HB.out.below K6).app (x := nw M xs k) (by omega) hsz
      rw [← dce_leaf (v := nw M xs) (T := T) hlt, ← dc_snoc] at R7
      have HA := Lib.hid hap
      have HR := Lib.hid R7
      have Kx := Kr.trans K7
      clear hap R7 K7 HB K6 Kr K H h
      generalize nw M xs k = x at *
      go_wp2_with (at_builtin; refine wpList_append_run rfl (.tmp 25) (.tmp 29) 43 rfl _ _ _ _ rfl rfl HA.out ?_)
      go_roundw
      case rel => exact ⟨k + 1, B', d', by omega, by go_num, rfl, HR, Kx⟩
      case measure => simp [intOf]; omega
    · obtain rfl : L = k := by omega
      go_wp2
      replace K := Below.then_ K Kr
      clear H h hk hlt
      go_loopw [6, 8] (fun o i ws => ∃ (t : Nat) (B : Option Addr) (d : Nat), t ≤ T ∧ i = .int .i64 t ∧ o = .slice B (L + t) d ∧ Hid (Rw ws w2.heap.size (.slice B (L + t) d) (L + t) (dc (nw M xs) L T (L + t))) ∧ Below w2.heap.size w2 ws) (fun _ i _ => T - (intOf i).toNat)
      case atStart => exact ⟨0, B, d, Nat.zero_le _, rfl, rfl, HB, Kr⟩
      case round =>
        clear HB Kr
        obtain ⟨t, B, d, ht, rfl, rfl, HB, Kr⟩ := hrel
        by_cases hlt : t < T
        · go_wp2
          go_loop [9, 10] (fun m i => ∃ b : Nat, b ≤ 64 ∧ i = .int .i64 b ∧ m = .int .u64 (fw (dtf (nw M xs) L t) b)) (fun _ i => 64 - (intOf i).toNat)
          case atStart => exact ⟨0, Nat.zero_le _, rfl, rfl⟩
          case round =>
            obtain ⟨b, hb, rfl, rfl⟩ := hrel
            by_cases hlt2 : b < 64
            · obtain ⟨x, hx⟩ : ∃ x : Nat, 64 * (t : Int) + b = (x : Int) := ⟨64 * t + b, by omega⟩
              have hx2 : dtf (nw M xs) L t b = (decide (L ≤ x) || fl (nw M xs x)) := by unfold dtf; rw [show 64 * t + b = x by omega]
              have hx3 : x ≤ 100000 := by omega
              have S := fun w => Lib.hid (rset_any (fw (dtf (nw M xs) L t) b) b (fw_lt _ (by omega)) (by omega) w)
              by_cases hLx : L ≤ x
              · have E := Lib.hid (fw_yes (f := dtf (nw M xs) L t) (n := b) (by rw [hx2]; simp [hLx]))
                clear hx2
                go_wp2_with (first
                  | ((with_reducible refine ((S _).out).mono ?_); rintro e w' ⟨rfl, rfl⟩))
                go_round
                case rel => exact ⟨b + 1, by omega, by go_num, by rw [E.out]⟩
                case measure => simp [intOf]; omega
              · obtain ⟨bb, oo, rfl, _, hc⟩ := (HB.out.us (dc_fit hv L T (L + t))).get (j := x) (by omega)
                rw [gt_dc (by omega), dce_leaf (by omega)] at hc
                have V := fun w => Lib.hid (rfull_any (nw M xs x) (hv x) w)
                have hxb : x < L + t := by omega
                cases hfu : fl (nw M xs x) with
                | true =>
                  have E := Lib.hid (fw_yes (f := dtf (nw M xs) L t) (n := b) (by rw [hx2, hfu]; simp))
                  rw [hfu] at V
                  clear hx2 hfu
                  generalize nw M xs x = y at *
                  go_wp2_with (first
                    | ((with_reducible refine ((V _).out).mono ?_); rintro e w' ⟨rfl, rfl⟩)
                    | ((with_reducible refine ((S _).out).mono ?_); rintro e w' ⟨rfl, rfl⟩))
                  go_round
                  case rel => exact ⟨b + 1, by omega, by go_num, by rw [E.out]⟩
                  case measure => simp [intOf]; omega
                | false =>
                  have E := Lib.hid (fw_no (f := dtf (nw M xs) L t) (n := b) (by rw [hx2, hfu]; simp; omega))
                  rw [hfu] at V
                  clear hx2 hfu
                  generalize nw M xs x = y at *
                  go_wp2_with (first
                    | ((with_reducible refine ((V _).out).mono ?_); rintro e w' ⟨rfl, rfl⟩))
                  go_round
                  case rel => exact ⟨b + 1, by omega, by go_num, by rw [E.out]⟩
                  case measure => simp [intOf]; omega
            · obtain rfl : b = 64 := by omega
              have hsz := Kr.size
              obtain ⟨B', d', w7, hap, R7, K7⟩ := HB.out.app (x := dtw (nw M xs) L t) (by omega) hsz
              rw [← dce_top (L := L) (v := nw M xs) hlt, ← dc_snoc] at R7
              have HA := Lib.hid hap
              have HR := Lib.hid R7
              have Kx := Kr.trans K7
              clear hap R7 K7 HB Kr K
              have ew : fw (dtf (nw M xs) L t) 64 = dtw (nw M xs) L t := rfl
              rw [ew]
              clear ew
              generalize dtw (nw M xs) L t = x at *
              go_wp2_with (at_builtin; refine wpList_append_run rfl (.tmp 59) (.tmp 61) 43 rfl _ _ _ _ rfl rfl HA.out ?_)
              go_roundw
              case rel => exact ⟨t + 1, B', d', by omega, by go_num, rfl, HR, Kx⟩
              case measure => simp [intOf]; omega
        · obtain rfl : T = t := by omega
          go_wp2
          go_loop [11, 12] (fun m i => ∃ b : Nat, b ≤ 64 ∧ i = .int .i64 b ∧ m = .int .u64 (fw (drf (nw M xs) L T) b)) (fun _ i => 64 - (intOf i).toNat)
          case atStart => exact ⟨0, Nat.zero_le _, rfl, rfl⟩
          case round =>
            obtain ⟨b, hb, rfl, rfl⟩ := hrel
            by_cases hlt2 : b < 64
            · have S := fun w => Lib.hid (rset_any (fw (drf (nw M xs) L T) b) b (fw_lt _ (by omega)) (by omega) w)
              by_cases hLx : T ≤ b
              · have E := Lib.hid (fw_yes (f := drf (nw M xs) L T) (n := b) (by unfold drf; simp [hLx]))
                go_wp2_with (first
                  | ((with_reducible refine ((S _).out).mono ?_); rintro e w' ⟨rfl, rfl⟩))
                go_round
                case rel => exact ⟨b + 1, by omega, by go_num, by rw [E.out]⟩
                case measure => simp [intOf]; omega
              · obtain ⟨bb, oo, rfl, _, hc⟩ := (HB.out.us (dc_fit hv L T (L + T))).get (j := L + b) (by omega)
                rw [gt_dc (by omega), dce_top (by omega)] at hc
                have hxb : L + b < L + T := by omega
                by_cases hfu : dtw (nw M xs) L b = 18446744073709551615
                · have E := Lib.hid (fw_yes (f := drf (nw M xs) L T) (n := b) (by unfold drf; simp [hfu]))
                  have e1 : (((dtw (nw M xs) L b : Nat) : Int) == 18446744073709551615) = true := by simp; omega
                  clear hfu
                  generalize dtw (nw M xs) L b = y at hc e1
                  go_wp2_with (first
                    | ((with_reducible refine ((S _).out).mono ?_); rintro e w' ⟨rfl, rfl⟩))
                  go_round
                  case rel => exact ⟨b + 1, by omega, by go_num, by rw [E.out]⟩
                  case measure => simp [intOf]; omega
                · have E := Lib.hid (fw_no (f := drf (nw M xs) L T) (n := b) (by unfold drf; simp [hfu]; omega))
                  have e1 : (((dtw (nw M xs) L b : Nat) : Int) == 18446744073709551615) = false := by simp; omega
                  clear hfu
                  generalize dtw (nw M xs) L b = y at hc e1
                  go_wp2
                  go_round
                  case rel => exact ⟨b + 1, by omega, by go_num, by rw [E.out]⟩
                  case measure => simp [intOf]; omega
            · obtain rfl : b = 64 := by omega
              have hsz := Kr.size
              obtain ⟨B', d', w7, hap, R7, K7⟩ := HB.out.app (x := drw (nw M xs) L T) (by omega) hsz
              rw [← dce_root, ← dc_snoc] at R7
              have HA := Lib.hid hap
              have HR := Lib.hid (R7.us (dc_fit hv L T _))
              have Kx := Kr.trans K7
              clear hap R7 K7 HB Kr
              have ew : fw (drf (nw M xs) L T) 64 = drw (nw M xs) L T := rfl
              rw [ew]
              clear ew
              generalize drw (nw M xs) L T = x at *
              go_wp2_with (at_builtin; refine wpList_append_run rfl (.tmp 82) (.tmp 84) 43 rfl _ _ _ _ rfl rfl HA.out ?_)
              go_ret
              exact ⟨_, _, rfl, HR.out, K0.trans (Kx.mono K0.size)⟩
end Go.Proofs.Ytbipjdmaoofggaa
