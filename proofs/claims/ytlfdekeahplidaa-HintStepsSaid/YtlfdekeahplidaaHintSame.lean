/-
  The document's Addrs, Errs, Asks, Answers and Same answer true of two that hold the same. Conditions: at most 65536 items a list.
-/
import Derived.Test.YtlfdekeahplidaaHintStep
namespace Go.Proofs.Ytlfdekeahplidaa
open Go.RowKit
set_option linter.unusedVariables false
theorem IS.toUS {lo : Nat} {w : World} {A : Option Addr} {n c : Nat} {xs : List Int} (h : IS .u64 lo w A n c xs) (hf : ∀ x ∈ xs, (Lit.int .u64 x).wf = true) : US w A n c (xs.map Int.toNat) := by
  refine ⟨by simp [h.len], h.cap, h.most, h.nil_, ?_, fun hn => ?_⟩
  · intro x hx
    obtain ⟨y, hy, rfl⟩ := List.mem_map.1 hx
    obtain ⟨X, rfl, hX⟩ := wf_U64 (hf y hy)
    simpa using hX
  · obtain ⟨b, o, e, _, hlt, hc⟩ := h.cells hn
    refine ⟨b, o, e, hlt, fun j hj => (hc j hj).trans ?_⟩
    have hl := h.len
    have hj' : j < xs.length := by omega
    obtain ⟨X, hX, _⟩ := wf_U64 (hf _ (gi_mem hj'))
    have : gt (xs.map Int.toNat) j = X := by
      unfold gt
      rw [List.getD_eq_getElem?_getD, List.getElem?_map, List.getElem?_eq_getElem hj']
      rw [gi_at hj'] at hX
      simp [hX]
    rw [hX, this]
theorem addrs_same {w : World} {lo lo' : Nat} {A A' : Option Addr} {n c c' : Nat} {xs : List Int} (h : IS .u32 lo w A n c xs) (h' : IS .u32 lo' w A' n c' xs) (hn : n ≤ 65536) :
    Calls Try.prog 47 #[.slice A n c, .slice A' n c'] w (RetBo true w) := by
  have e0 : ((n : Int) != (n : Int)) = false := by simp
  go_enter Try.func47, Try.ntmps47
  go_wp2
  go_loopw [5] (fun i wr => ∃ k : Nat, k ≤ n ∧ i = .int .i64 k ∧ Below w.heap.size w wr) (fun i _ => n - (intOf i).toNat)
  case atStart => exact ⟨0, Nat.zero_le _, rfl, Below.refl _ _⟩
  case round =>
    obtain ⟨k, hk, rfl, Kr⟩ := hrel
    by_cases hlt : k < n
    · obtain ⟨b, o, rfl, _, hc⟩ := (h.below Kr).get hlt
      obtain ⟨b', o', rfl, _, hc'⟩ := (h'.below Kr).get hlt
      generalize gi xs k = y at hc hc'
      have e1 : (y != y) = false := by simp
      go_wp2
      go_quiet (fail)
      go_wp2
      go_roundw
      case rel => exact ⟨k + 1, by omega, by go_num, Kr.trans ((drewN_below _ _).mono Kr.size)⟩
      case measure => simp [intOf]; omega
    · go_wp2
      go_ret
      exact ⟨rfl, Kr⟩
theorem errs_same {w : World} {lo lo' : Nat} {A A' : Option Addr} {n c c' : Nat} {xs : List Int} (h : IS .i64 lo w A n c xs) (h' : IS .i64 lo' w A' n c' xs) (hn : n ≤ 65536) :
    Calls Try.prog 48 #[.slice A n c, .slice A' n c'] w (RetBo true w) := by
  have e0 : ((n : Int) != (n : Int)) = false := by simp
  go_enter Try.func48, Try.ntmps48
  go_wp2
  go_loopw [5] (fun i wr => ∃ k : Nat, k ≤ n ∧ i = .int .i64 k ∧ Below w.heap.size w wr) (fun i _ => n - (intOf i).toNat)
  case atStart => exact ⟨0, Nat.zero_le _, rfl, Below.refl _ _⟩
  case round =>
    obtain ⟨k, hk, rfl, Kr⟩ := hrel
    by_cases hlt : k < n
    · obtain ⟨b, o, rfl, _, hc⟩ := (h.below Kr).get hlt
      obtain ⟨b', o', rfl, _, hc'⟩ := (h'.below Kr).get hlt
      generalize gi xs k = y at hc hc'
      have e1 : (y != y) = false := by simp
      go_wp2
      go_quiet (fail)
      go_wp2
      go_roundw
      case rel => exact ⟨k + 1, by omega, by go_num, Kr.trans ((drewN_below _ _).mono Kr.size)⟩
      case measure => simp [intOf]; omega
    · go_wp2
      go_ret
      exact ⟨rfl, Kr⟩
theorem asks_same {w : World} {lo lo' : Nat} {kind addr : Int} {A0 B0 : Option Addr} {n0 c0 e0 : Nat} {xs : List Int} (h : IS .u32 lo w A0 n0 c0 xs) (h' : IS .u32 lo' w B0 n0 e0 xs) (hn : n0 ≤ 65536) :
    Calls Try.prog 28 #[.agg #[.int .i64 kind, .int .u32 addr, .slice A0 n0 c0], .agg #[.int .i64 kind, .int .u32 addr, .slice B0 n0 e0]] w (RetBo true w) := by
  go_enter Try.func28, Try.ntmps28
  go_upto_region 1 with (fail)
  have K := below_alloc w (.cells #[.int .i64 kind, .int .u32 addr, .slice A0 n0 c0] 31)
  have X : Bk (World.alloc (w) (.cells #[.int .i64 kind, .int .u32 addr, .slice A0 n0 c0] 31)) (World.heap (w)).size 31 (#[.int .i64 kind, .int .u32 addr, .slice A0 n0 c0]) := Bk.new _ _ _
  replace X := X.alloc (.cells #[.int .i64 kind, .int .u32 addr, .slice B0 n0 e0] 31)
  replace K := Below.then_ K (below_alloc _ (.cells #[.int .i64 kind, .int .u32 addr, .slice B0 n0 e0] 31))
  have Y : Bk (World.alloc ((w).alloc (.cells #[.int .i64 kind, .int .u32 addr, .slice A0 n0 c0] 31)) (.cells #[.int .i64 kind, .int .u32 addr, .slice B0 n0 e0] 31)) (World.heap ((w).alloc (.cells #[.int .i64 kind, .int .u32 addr, .slice A0 n0 c0] 31))).size 31 (#[.int .i64 kind, .int .u32 addr, .slice B0 n0 e0]) := Bk.new _ _ _
  try simp only [World.size_alloc] at X Y
  generalize ((w).alloc (.cells #[.int .i64 kind, .int .u32 addr, .slice A0 n0 c0] 31)).alloc (.cells #[.int .i64 kind, .int .u32 addr, .slice B0 n0 e0] 31) = w1 at X Y K ⊢
  obtain ⟨gY, hgY⟩ : ∃ g, g = w.heap.size + 1 := ⟨_, rfl⟩
  rw [← hgY] at Y ⊢
  obtain ⟨gX, hgX⟩ : ∃ g, g = w.heap.size := ⟨_, rfl⟩
  rw [← hgX] at X ⊢
  have X_b : w.heap.size ≤ gX := by omega
  have Y_b : w.heap.size ≤ gY := by omega
  have ne_X_Y : gX ≠ gY := by omega
  clear hgX hgY
  have X_0 := X.at_ (v := .int .i64 kind) 0 rfl
  have X_1 := X.at_ (v := .int .u32 addr) 1 rfl
  have X_2 := X.at_ (v := .slice A0 n0 c0) 2 rfl
  have X_z := X.lt
  have Y_0 := Y.at_ (v := .int .i64 kind) 0 rfl
  have Y_1 := Y.at_ (v := .int .u32 addr) 1 rfl
  have Y_2 := Y.at_ (v := .slice B0 n0 e0) 2 rfl
  have Y_z := Y.lt
  have f1 : (kind == kind) = true := by simp
  have f2 : (addr == addr) = true := by simp
  go_wp2_with fail
  refine (addrs_same (h.below K) (h'.below K) hn).mono ?_
  rintro e w2 ⟨rfl, K'⟩
  replace K := Below.then_ K K'
  go_wp2
  go_ret
  exact ⟨rfl, K⟩
set_option maxHeartbeats 1000000 in
theorem answers_same {w : World} {lo lo' : Nat} {err aad : Int} {used : Bool} {A1 B1 A2 B2 : Option Addr} {n1 c1 e1 n2 c2 e2 : Nat} {ads ers : List Int} (h1 : IS .u32 lo w A1 n1 c1 ads) (h1' : IS .u32 lo' w B1 n1 e1 ads) (h2 : IS .i64 lo w A2 n2 c2 ers) (h2' : IS .i64 lo' w B2 n2 e2 ers) (hn1 : n1 ≤ 65536) (hn2 : n2 ≤ 65536) :
    Calls Try.prog 29 #[.agg #[.int .i64 err, .int .u32 aad, .bool used, .slice A1 n1 c1, .slice A2 n2 c2], .agg #[.int .i64 err, .int .u32 aad, .bool used, .slice B1 n1 e1, .slice B2 n2 e2]] w (RetBo true w) := by
  go_enter Try.func29, Try.ntmps29
  go_upto_region 1 with (fail)
  have K := below_alloc w (.cells #[.int .i64 err, .int .u32 aad, .bool used, .slice A1 n1 c1, .slice A2 n2 c2] 35)
  have X : Bk (World.alloc (w) (.cells #[.int .i64 err, .int .u32 aad, .bool used, .slice A1 n1 c1, .slice A2 n2 c2] 35)) (World.heap (w)).size 35 (#[.int .i64 err, .int .u32 aad, .bool used, .slice A1 n1 c1, .slice A2 n2 c2]) := Bk.new _ _ _
  replace X := X.alloc (.cells #[.int .i64 err, .int .u32 aad, .bool used, .slice B1 n1 e1, .slice B2 n2 e2] 35)
  replace K := Below.then_ K (below_alloc _ (.cells #[.int .i64 err, .int .u32 aad, .bool used, .slice B1 n1 e1, .slice B2 n2 e2] 35))
  have Y : Bk (World.alloc ((w).alloc (.cells #[.int .i64 err, .int .u32 aad, .bool used, .slice A1 n1 c1, .slice A2 n2 c2] 35)) (.cells #[.int .i64 err, .int .u32 aad, .bool used, .slice B1 n1 e1, .slice B2 n2 e2] 35)) (World.heap ((w).alloc (.cells #[.int .i64 err, .int .u32 aad, .bool used, .slice A1 n1 c1, .slice A2 n2 c2] 35))).size 35 (#[.int .i64 err, .int .u32 aad, .bool used, .slice B1 n1 e1, .slice B2 n2 e2]) := Bk.new _ _ _
  try simp only [World.size_alloc] at X Y
  generalize ((w).alloc (.cells #[.int .i64 err, .int .u32 aad, .bool used, .slice A1 n1 c1, .slice A2 n2 c2] 35)).alloc (.cells #[.int .i64 err, .int .u32 aad, .bool used, .slice B1 n1 e1, .slice B2 n2 e2] 35) = w1 at X Y K ⊢
  obtain ⟨gY, hgY⟩ : ∃ g, g = w.heap.size + 1 := ⟨_, rfl⟩
  rw [← hgY] at Y ⊢
  obtain ⟨gX, hgX⟩ : ∃ g, g = w.heap.size := ⟨_, rfl⟩
  rw [← hgX] at X ⊢
  have X_b : w.heap.size ≤ gX := by omega
  have Y_b : w.heap.size ≤ gY := by omega
  have ne_X_Y : gX ≠ gY := by omega
  clear hgX hgY
  have X_0 := X.at_ (v := .int .i64 err) 0 rfl
  have X_1 := X.at_ (v := .int .u32 aad) 1 rfl
  have X_2 := X.at_ (v := .bool used) 2 rfl
  have X_3 := X.at_ (v := .slice A1 n1 c1) 3 rfl
  have X_4 := X.at_ (v := .slice A2 n2 c2) 4 rfl
  have X_z := X.lt
  have Y_0 := Y.at_ (v := .int .i64 err) 0 rfl
  have Y_1 := Y.at_ (v := .int .u32 aad) 1 rfl
  have Y_2 := Y.at_ (v := .bool used) 2 rfl
  have Y_3 := Y.at_ (v := .slice B1 n1 e1) 3 rfl
  have Y_4 := Y.at_ (v := .slice B2 n2 e2) 4 rfl
  have Y_z := Y.lt
  have f1 : (err == err) = true := by simp
  have f2 : (aad == aad) = true := by simp
  have f3 : (used == used) = true := by simp
  go_wp2_with fail
  refine (addrs_same (h1.below K) (h1'.below K) hn1).mono ?_
  rintro e w2 ⟨rfl, K'⟩
  clear X_0 Y_0 X_1 Y_1 X_2 Y_2 X_3 Y_3 X_4 Y_4 X_z Y_z
  replace X := X.below K'
  replace Y := Y.below K'
  replace K := Below.then_ K K'
  clear K'
  have X_0 := X.at_ (v := .int .i64 err) 0 rfl
  have X_1 := X.at_ (v := .int .u32 aad) 1 rfl
  have X_2 := X.at_ (v := .bool used) 2 rfl
  have X_3 := X.at_ (v := .slice A1 n1 c1) 3 rfl
  have X_4 := X.at_ (v := .slice A2 n2 c2) 4 rfl
  have X_z := X.lt
  have Y_0 := Y.at_ (v := .int .i64 err) 0 rfl
  have Y_1 := Y.at_ (v := .int .u32 aad) 1 rfl
  have Y_2 := Y.at_ (v := .bool used) 2 rfl
  have Y_3 := Y.at_ (v := .slice B1 n1 e1) 3 rfl
  have Y_4 := Y.at_ (v := .slice B2 n2 e2) 4 rfl
  have Y_z := Y.lt
  go_wp2_with fail
  refine (errs_same (h2.below K) (h2'.below K) hn2).mono ?_
  rintro e w3 ⟨rfl, K'⟩
  replace K := Below.then_ K K'
  go_wp2
  go_ret
  exact ⟨rfl, K⟩
set_option maxRecDepth 100000 in
set_option maxHeartbeats 4000000 in
theorem sameop_any {w : World} {lo lo' : Nat} {A0 A1 A2 A3 B0 B1 B2 B3 : Option Addr} {n0 n1 n2 n3 c0 c1 c2 c3 e0 e1 e2 e3 : Nat} {s : Sc} {l : Ls} {xs : List Int} (hI : IS .u32 0 w A0 n0 c0 xs) (hI' : IS .u32 0 w B0 n0 e0 xs)
    (L : Lists lo w ⟨A0, n0, c0, A1, n1, c1, A2, n2, c2, A3, n3, c3⟩ l) (L' : Lists lo' w ⟨B0, n0, e0, B1, n1, e1, B2, n2, e2, B3, n3, e3⟩ l) (hf : ∀ x ∈ l.ses, (Lit.int .u64 x).wf = true) (hn0 : n0 ≤ 65536) (hn1 : n1 ≤ 65536) (hn2 : n2 ≤ 65536) (hn3 : n3 ≤ 65536) :
    Calls Try.prog 14 #[.agg (opv ⟨A0, n0, c0, A1, n1, c1, A2, n2, c2, A3, n3, c3⟩ s), .agg (opv ⟨B0, n0, e0, B1, n1, e1, B2, n2, e2, B3, n3, e3⟩ s)] w (RetBo true w) := by
  rcases s with ⟨kind, addr, err, aad, used, phase, shard, sought, leaf, bit, word, full, at_, tries, item, stamp⟩
  go_enter Try.func14, Try.ntmps14
  have f_phase : (phase == phase) = true := by simp
  have f_shard : (shard == shard) = true := by simp
  have f_sought : (sought == sought) = true := by simp
  have f_leaf : (leaf == leaf) = true := by simp
  have f_bit : (bit == bit) = true := by simp
  have f_word : ((word : Int) == (word : Int)) = true := by simp
  have f_full : (full == full) = true := by simp
  have f_at_ : (at_ == at_) = true := by simp
  have f_tries : (tries == tries) = true := by simp
  have f_item : (item == item) = true := by simp
  have f_stamp : (stamp == stamp) = true := by simp
  have K := below_alloc w (.cells (opv ⟨A0, n0, c0, A1, n1, c1, A2, n2, c2, A3, n3, c3⟩ ⟨kind, addr, err, aad, used, phase, shard, sought, leaf, bit, word, full, at_, tries, item, stamp⟩) 38)
  have X := Bk.new w (opv ⟨A0, n0, c0, A1, n1, c1, A2, n2, c2, A3, n3, c3⟩ ⟨kind, addr, err, aad, used, phase, shard, sought, leaf, bit, word, full, at_, tries, item, stamp⟩) 38
  replace X := X.alloc (.cells (opv ⟨B0, n0, e0, B1, n1, e1, B2, n2, e2, B3, n3, e3⟩ ⟨kind, addr, err, aad, used, phase, shard, sought, leaf, bit, word, full, at_, tries, item, stamp⟩) 38)
  replace K := Below.then_ K (below_alloc _ (.cells (opv ⟨B0, n0, e0, B1, n1, e1, B2, n2, e2, B3, n3, e3⟩ ⟨kind, addr, err, aad, used, phase, shard, sought, leaf, bit, word, full, at_, tries, item, stamp⟩) 38))
  have Y := Bk.new (w.alloc (.cells (opv ⟨A0, n0, c0, A1, n1, c1, A2, n2, c2, A3, n3, c3⟩ ⟨kind, addr, err, aad, used, phase, shard, sought, leaf, bit, word, full, at_, tries, item, stamp⟩) 38)) (opv ⟨B0, n0, e0, B1, n1, e1, B2, n2, e2, B3, n3, e3⟩ ⟨kind, addr, err, aad, used, phase, shard, sought, leaf, bit, word, full, at_, tries, item, stamp⟩) 38
  simp only [World.size_alloc] at Y
  have X_0 := X.at_ (v := .int .i64 (kind)) 0 rfl
  have Y_0 := Y.at_ (v := .int .i64 (kind)) 0 rfl
  have X_1 := X.at_ (v := .int .u32 (addr)) 1 rfl
  have Y_1 := Y.at_ (v := .int .u32 (addr)) 1 rfl
  have X_2 := X.at_ (v := .slice A0 n0 c0) 2 rfl
  have Y_2 := Y.at_ (v := .slice B0 n0 e0) 2 rfl
  have X_z := X.lt
  have Y_z := Y.lt
  go_wp2_with fail
  refine (asks_same (hI.below K) (hI'.below K) hn0).mono ?_
  rintro e w1 ⟨rfl, K'⟩
  clear X_z Y_z X_0 Y_0 X_1 Y_1 X_2 Y_2
  replace X := X.below K'
  replace Y := Y.below K'
  replace K := Below.then_ K K'
  clear K'
  have X_3 := X.at_ (v := .int .i64 (err)) 3 rfl
  have Y_3 := Y.at_ (v := .int .i64 (err)) 3 rfl
  have X_4 := X.at_ (v := .int .u32 (aad)) 4 rfl
  have Y_4 := Y.at_ (v := .int .u32 (aad)) 4 rfl
  have X_5 := X.at_ (v := .bool (used)) 5 rfl
  have Y_5 := Y.at_ (v := .bool (used)) 5 rfl
  have X_6 := X.at_ (v := .slice A1 n1 c1) 6 rfl
  have Y_6 := Y.at_ (v := .slice B1 n1 e1) 6 rfl
  have X_7 := X.at_ (v := .slice A2 n2 c2) 7 rfl
  have Y_7 := Y.at_ (v := .slice B2 n2 e2) 7 rfl
  have X_z := X.lt
  have Y_z := Y.lt
  go_wp2_with fail
  refine (answers_same (L.i1.below K) (L'.i1.below K) (L.i2.below K) (L'.i2.below K) hn1 hn2).mono ?_
  rintro e w2 ⟨rfl, K'⟩
  clear X_z Y_z X_3 Y_3 X_4 Y_4 X_5 Y_5 X_6 Y_6 X_7 Y_7
  replace X := X.below K'
  replace Y := Y.below K'
  replace K := Below.then_ K K'
  clear K'
  have X_8 := X.at_ (v := .int .i64 (phase)) 8 rfl
  have Y_8 := Y.at_ (v := .int .i64 (phase)) 8 rfl
  have X_9 := X.at_ (v := .int .i64 (shard)) 9 rfl
  have Y_9 := Y.at_ (v := .int .i64 (shard)) 9 rfl
  have X_10 := X.at_ (v := .int .i64 (sought)) 10 rfl
  have Y_10 := Y.at_ (v := .int .i64 (sought)) 10 rfl
  have X_11 := X.at_ (v := .int .i64 (leaf)) 11 rfl
  have Y_11 := Y.at_ (v := .int .i64 (leaf)) 11 rfl
  have X_12 := X.at_ (v := .int .i64 (bit)) 12 rfl
  have Y_12 := Y.at_ (v := .int .i64 (bit)) 12 rfl
  have X_13 := X.at_ (v := .int .u64 ((word : Nat) : Int)) 13 rfl
  have Y_13 := Y.at_ (v := .int .u64 ((word : Nat) : Int)) 13 rfl
  have X_14 := X.at_ (v := .bool (full)) 14 rfl
  have Y_14 := Y.at_ (v := .bool (full)) 14 rfl
  have X_15 := X.at_ (v := .slice A3 n3 c3) 15 rfl
  have Y_15 := Y.at_ (v := .slice B3 n3 e3) 15 rfl
  have X_z := X.lt
  have Y_z := Y.lt
  go_wp2_with fail
  refine (same_any ((L.i3.below K).toUS hf) ((L'.i3.below K).toUS hf) hn3).mono ?_
  rintro e w3 ⟨rfl, K'⟩
  clear X_z Y_z X_8 Y_8 X_9 Y_9 X_10 Y_10 X_11 Y_11 X_12 Y_12 X_13 Y_13 X_14 Y_14 X_15 Y_15
  replace X := X.below K'
  replace Y := Y.below K'
  replace K := Below.then_ K K'
  clear K'
  have X_16 := X.at_ (v := .int .i64 (at_)) 16 rfl
  have Y_16 := Y.at_ (v := .int .i64 (at_)) 16 rfl
  have X_17 := X.at_ (v := .int .i64 (tries)) 17 rfl
  have Y_17 := Y.at_ (v := .int .i64 (tries)) 17 rfl
  have X_18 := X.at_ (v := .int .i64 (item)) 18 rfl
  have Y_18 := Y.at_ (v := .int .i64 (item)) 18 rfl
  have X_19 := X.at_ (v := .int .i64 (stamp)) 19 rfl
  have Y_19 := Y.at_ (v := .int .i64 (stamp)) 19 rfl
  have X_z := X.lt
  have Y_z := Y.lt
  go_wp2
  go_ret
  exact ⟨rfl, K⟩
end Go.Proofs.Ytlfdekeahplidaa
