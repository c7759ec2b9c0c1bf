/-
  The walk of the statement CellsKeep: for every list of words, place and word the law answers true, and nothing that was there is otherwise; no conditions.
-/
import Derived.Test.YtnngnhccbfnbkaaCellAwake
import Derived.StillTailTactics
namespace Go.Proofs.Ytnngnhccbfnbkaa.cellsKeep
open Go.RowKit
theorem Own.lt {w : World} {base g n c : Nat} {t : TypeId} {xs : List Nat} (h : Own w base g n c t xs) : g < w.heap.size := by
  rcases h.2 with ⟨hv, _⟩ | ⟨g', cap, cur, hv, hb, hh, _⟩
  · cases hv
  · injection hv with h1; injection h1 with h1; injection h1 with h1; subst h1; exact lt_of_block hh
theorem Own.below {w w' : World} {base g n c : Nat} {t : TypeId} {xs : List Nat} (h : Own w base g n c t xs) (K : Below w.heap.size w w') : Own w' base g n c t xs := by
  have hlt := Own.lt h
  refine ⟨h.1, ?_⟩
  rcases h.2 with ⟨hv, _⟩ | ⟨g', cap, cur, hv, hb, hh, r⟩
  · cases hv
  · refine .inr ⟨g', cap, cur, hv, hb, ?_, r⟩
    injection hv with h1; injection h1 with h1; injection h1 with h1
    rw [K.block g' (by omega)]; exact hh
theorem Own.cap {w : World} {base g n c : Nat} {t : TypeId} {xs : List Nat} (h : Own w base g n c t xs) : n ≤ c ∧ c ≤ maxLen := by
  rcases h.2 with ⟨hv, _⟩ | ⟨g', cap, cur, hv, hb, hh, h1, h2, _⟩
  · cases hv
  · injection hv with _ _ h3; subst h3; exact ⟨h1, h2⟩
theorem Own.head {w : World} {base g n c : Nat} {t : TypeId} {xs : List Nat} {y : Nat} (h : Own w base g (n + 1) c t (xs ++ [y])) (hl : xs.length = n) (hf : ∀ x ∈ xs, x < U64) : US w (some ⟨g, 0, none⟩) n c xs := by
  have hc := Own.cap h
  refine ⟨hl, by omega, hc.2, (fun h => by cases h), hf, fun hn => ⟨g, 0, rfl, Own.lt h, fun j hj => ?_⟩⟩
  rw [Nat.zero_add, Own.cell h (i := j) (by omega)]
  unfold gt; simp [List.getD_eq_getElem?_getD, List.getElem?_append, show j < xs.length by omega]
theorem Own.last {w : World} {base g n c : Nat} {t : TypeId} {xs : List Nat} {y : Nat} (h : Own w base g (n + 1) c t (xs ++ [y])) (hl : xs.length = n) : w.cell? ⟨g, n, none⟩ = some (.int .u64 (y : Nat)) := by
  rw [Own.cell h (i := n) (by omega)]
  unfold gt; simp [List.getD_eq_getElem?_getD, hl]
theorem new_blk (n : Nat) (hn : n ≤ 65536) (w : World) : Calls Try.prog 18 #[.int .i64 (n : Nat)] w fun e w' => e = .returned (.slice (some ⟨w.heap.size, 0, none⟩) n n) ∧ Blk w' w.heap.size 23 (List.replicate n 0) ∧ Below w.heap.size w w' := by
  obtain ⟨i0, hi, hz0, hz1, hz2⟩ := info_parts u64_info
  have hb8 : i0.bytes * n ≤ 281474976710656 := by rw [hz2]; omega
  go_enter Try.func18, Try.ntmps18
  go_wp2_with (at_make; refine wpList_make_full _ rfl (.tmp 9) (.tmp 9) _ rfl w.heap.size 23 i0 _ 1 Try.underlying22 hi hz0 hz1 .i64 .i64 _ _ n rfl rfl rfl rfl hb8 (by unfold maxLen; omega) (Nat.le_refl _) ?_; intro w1 hown1 hg1; have B1 := Blk.of_made hown1; clear hown1; have K1 : Below w.heap.size w w1 := (Below.refl _ _).grown hg1 (Nat.le_refl _) (by simp); clear hg1)
  go_ret
  exact ⟨rfl, B1, K1⟩
theorem run_append_one {P : Program} {w : World} {base g0 n c b : Nat} {t e : TypeId} {i : TypeInfo} (ht : P.underlying t = some (.slice e)) (hi : P.info? e = some i) (hz : i.zero = some (.int .u64 0)) (hsize : i.size = 1) (hby : i.bytes = 8) {xs : List Nat} {y : Nat}
    (hown : Own w base g0 n c e xs) (hy : w.cell? ⟨b, 0, none⟩ = some (.int .u64 (y : Nat))) (hn : n ≤ 65536) (hbase : base ≤ w.heap.size) (ty : TypeId) :
    ∃ g c' w', (Builtin.append_ #[t, t] ty #[.slice (some ⟨g0, 0, none⟩) n c, .slice (some ⟨b, 0, none⟩) 1 1]).run P w = .ok (.slice (some ⟨g, 0, none⟩) (n + 1) c') w' ∧ Own w' base g (n + 1) c' e (xs ++ [y]) ∧ Below base w w' := by
  obtain ⟨v', w', hrun, hown', hg, hnil⟩ := run_append_own (P := P) w base t ty e i _ 1 8 ht hi hz hsize hby rfl (by omega) _ n (xs.map uv) hown ⟨b, 0, none⟩ 1 1 [uv y] rfl (by
    intro j u hu
    match j, hu with
    | 0, hu => simp at hu; subst hu; simpa [Addr.add, uv] using hy) (uv_one [y]) (by unfold maxLen; omega) (by omega) hbase
  have hown2 := hown'
  rcases hown'.2 with ⟨rfl, _⟩ | ⟨g, cap, cur, rfl, _⟩
  · have := (hnil.1 rfl).1; cases this
  · refine ⟨g, cap, w', hrun, ?_, ?_⟩
    · unfold Own; simpa using hown2
    · exact (Below.refl _ _).grown hg hbase (by intro k hk; simp [Value.ownBlock] at hk; have := hown.ge; omega)
set_option maxHeartbeats 1000000 in
theorem walk (a0 : Option Addr) (len0 cap0 : Nat) (z0 : List Int) (a1 : Int) (a2 : Int) (w : World) (w0 : IsRow .u64 w a0 len0 cap0 z0) (_w1 : (Lit.int .i64 a1).wf = true) (w2 : (Lit.int .u64 a2).wf = true) :
    Calls Try.prog 7 #[.slice a0 len0 cap0, .int .i64 a1, .int .u64 a2] w fun e w' => e = .returned (.bool true) ∧ Below w.heap.size w w' := by
  obtain ⟨xs, U⟩ := US.of_row w0
  obtain ⟨v, rfl, hv⟩ := wf_u64 w2
  clear w0 _w1 w2
  by_cases hbig : 2000 < len0
  · have hd : decide ((2000 : Int) < (len0 : Int)) = true := by simp; omega
    have K := Below.refl w.heap.size w
    go_enter Try.func7, Try.ntmps7
    have T := Lib.hid (awake_any w)
    go_wp2_with fail
    refine (T.out).mono ?_
    rintro e w1 ⟨rfl, K'⟩
    clear T
    replace K := Below.then_ K K'
    clear K'
    have T := Lib.hid (awake_any w1)
    go_wp2_with fail
    refine (T.out).mono ?_
    rintro e w2 ⟨rfl, K'⟩
    clear T
    replace K := Below.then_ K K'
    clear K'
    go_wp2
    go_ret
    exact ⟨rfl, K⟩
  have hd : decide ((2000 : Int) < (len0 : Int)) = false := by simp; omega
  have hn : len0 ≤ 65536 := by omega
  have hl := Lib.hid U.len
  obtain ⟨i0, hi, hz0, hz1, hz2⟩ := info_parts u64_info
  have HF := Lib.hid U.fit
  have K := Below.refl w.heap.size w
  go_enter Try.func7, Try.ntmps7
  have T := Lib.hid (awake_any w)
  go_wp2_with fail
  refine (T.out).mono ?_
  rintro e w1 ⟨rfl, K'⟩
  clear T
  replace U := U.below K'
  replace K := Below.then_ K K'
  clear K'
  have K0 := below_alloc w1 (.cells #[] 23)
  have hown : (w1.alloc (.cells #[] 23)).ownsRow w1.heap.size 23 1 (.slice (some ⟨w1.heap.size, 0, none⟩) 0 0) 0 [] := World.ownsRow_lit w1 #[] 0 (Nat.le_refl _) (by unfold maxLen; omega) rfl
  obtain ⟨g1, cc1, w2, hap1, O1, K1⟩ := run_append_us (P := Try.prog) Try.underlying22 hi hz0 hz1 hz2 hown (U.below K0) hn (Nat.le_refl _) K0.size 22
  have K2 : Below w1.heap.size w1 w2 := K0.trans K1
  have K3 := below_alloc w2 (.cells #[.int .u64 77] 23)
  obtain ⟨g2, cc2, w3, hap2, O2, K4⟩ := run_append_one (P := Try.prog) (b := w2.heap.size) (y := 77) Try.underlying22 hi hz0 hz1 hz2 (Own.below O1 K3) (by simp) hn (Nat.le_trans K2.size K3.size) 22
  have K5 : Below w1.heap.size w1 w3 := (K2.trans (K3.mono K2.size)).trans K4
  have H1 := Lib.hid hap1
  have H2 := Lib.hid hap2
  have hcap := (Own.cap O2).1
  replace U := U.below K5
  replace K := Below.then_ K K5
  clear hap1 hap2 hown O1 K0 K1 K2 K3 K4 K5 hi hz0 hz1 hz2
  have W := Own.head O2 hl.out HF.out
  have T := Lib.hid (store_any (v := v) W a1 hn hv)
  go_wp2_with (first
    | (at_builtin; refine wpList_append_run rfl (.tmp 18) (.tmp 19) 22 rfl _ _ _ _ rfl rfl H1.out ?_)
    | (at_builtin; refine wpList_append_run rfl (.tmp 20) (.tmp 21) 22 rfl _ _ _ _ rfl rfl H2.out ?_)
    | fail)
  refine (T.out).mono ?_
  rintro e w4 ⟨A4, c4, rfl, U4, K'⟩
  clear T U4 H1 H2
  replace O2 := Own.below O2 K'
  replace W := W.below K'
  replace U := U.below K'
  replace K := Below.then_ K K'
  clear K'
  have T := Lib.hid (add_any (v := v) W a1 hn)
  go_wp2_with fail
  refine (T.out).mono ?_
  rintro e w5 ⟨A5, c5, rfl, U5, K'⟩
  clear T U5
  replace O2 := Own.below O2 K'
  replace W := W.below K'
  replace U := U.below K'
  replace K := Below.then_ K K'
  clear K'
  have KD : Below w5.heap.size w5 w5.drew := ⟨rfl, rfl, rfl, Nat.le_refl _, fun _ _ => rfl⟩
  replace O2 := Own.below O2 KD
  replace W := W.below KD
  replace U := U.below KD
  replace K := Below.then_ K KD
  clear KD
  have R := Lib.hid (show Calls Try.prog 13 #[.slice a0 len0 cap0, .int .i64 a1] w5.drew (fun e w' => e = .returned (.int .u64 (ldI xs a1 : Nat)) ∧ w' = w5.drew) from (rload_any U a1 hn).mono fun _ _ h => ⟨h.1, h.2.symm⟩)
  go_wp2_with fail
  have q1 : (len0 : Int) ≤ (cc2 : Int) := by omega
  have q2 : len0 ≤ cc2 := by omega
  have q3 : ¬ cc2 < len0 := by omega
  go_still_tail 9, (by kernel_rfl)
  still_call R.out
  repeat still_step
  refine wpStill_nil ?_
  clear R
  change wpList _ _ _ _ _ w5.drew
  generalize w5.drew = w6 at *
  have T := Lib.hid (swap_any (y := ldI xs a1) (v := v) W a1 hn hv)
  go_wp2_with fail
  refine (T.out).mono ?_
  rintro e w7 ⟨A7, c7, rfl, U7, K'⟩
  clear T U7
  replace O2 := Own.below O2 K'
  replace W := W.below K'
  replace U := U.below K'
  replace K := Below.then_ K K'
  clear K'
  have T := Lib.hid (show Calls Try.prog 18 #[.int .i64 3] w7 fun e w' => e = .returned (.slice (some ⟨w7.heap.size, 0, none⟩) 3 3) ∧ Blk w' w7.heap.size 23 [0, 0, 0] ∧ Below w7.heap.size w7 w' from new_blk 3 (by decide) w7)
  go_wp2_with fail
  refine (T.out).mono ?_
  rintro e w8 ⟨rfl, B1, K8⟩
  clear T
  have T := Lib.hid (show Calls Try.prog 18 #[.int .i64 3] w8 fun e w' => e = .returned (.slice (some ⟨w8.heap.size, 0, none⟩) 3 3) ∧ Blk w' w8.heap.size 23 [0, 0, 0] ∧ Below w8.heap.size w8 w' from new_blk 3 (by decide) w8)
  go_wp2_with fail
  refine (T.out).mono ?_
  rintro e w9 ⟨rfl, B2, K9⟩
  clear T
  have hlt := B1.lt
  replace B1 : Blk w9 w7.heap.size 23 [0, 0, 0] := (K9.block _ hlt).trans B1
  have K9' : Below w7.heap.size w7 (w9.setCell ⟨w7.heap.size, 0, none⟩ (.int .u64 5)) := (K8.trans (K9.mono K8.size)).setCell (Nat.le_refl _) _
  have b1 : w9.cell? ⟨w7.heap.size, 0, none⟩ = some (.int .u64 0) := B1.cell (i := 0) (by decide)
  have f1 := B1.frozen 0
  have b2 : (w9.setCell ⟨w7.heap.size, 0, none⟩ (.int .u64 5)).cell? ⟨w8.heap.size, 0, none⟩ = some (.int .u64 0) := by
    rw [World.cell?_setCell_other _ _ _ _ (by intro e; injection e with e; omega)]; exact B2.cell (i := 0) (by decide)
  have HX := Lib.hid K9'
  replace O2 := Own.below O2 K9'
  replace W := W.below K9'
  replace U := U.below K9'
  replace K := Below.then_ K K9'
  have T := Lib.hid (same_any W U hn)
  clear K9' HX K8 K9 B1 B2
  go_wp2_with fail
  refine (T.out).mono ?_
  rintro e w10 ⟨rfl, K'⟩
  replace O2 := Own.below O2 K'
  replace K := Below.then_ K K'
  have l1 := Own.last O2 hl.out
  clear T
  go_wp2
  go_ret
  exact ⟨rfl, K⟩
end Go.Proofs.Ytnngnhccbfnbkaa.cellsKeep
