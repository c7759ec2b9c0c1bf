/-
  The anchor of layer 14's laws answers true; what the laws' gives and the document's Errs answer.
-/
import Derived.Test.YtafdlofmgefdoaaDropStep
namespace Go.Proofs.Ytafdlofmgefdoaa
open Go.RowKit
set_option linter.unusedVariables false
theorem errs_same {w : World} {lo lo' : Nat} {A A' : Option Addr} {n c c' : Nat} {xs : List Int} (h : IS .i64 lo w A n c xs) (h' : IS .i64 lo' w A' n c' xs) (hn : n ≤ 65536) :
    Calls Try.prog 19 #[.slice A n c, .slice A' n c'] w (RetBo true w) := by
  have e0 : ((n : Int) != (n : Int)) = false := by simp
  go_enter Try.func19, Try.ntmps19
  go_wp2
  go_loopw [5] (fun i wr => ∃ k : Nat, k ≤ n ∧ i = .int .i64 k ∧ Below w.heap.size w wr) (fun i _ => n - (intOf i).toNat)
  case atStart => exact ⟨0, Nat.zero_le _, rfl, Below.refl _ _⟩
  case round =>
    obtain ⟨k, hk, rfl, Kr⟩ := hrel
    by_cases hlt : k < n
    · obtain ⟨b, o, rfl, _, hc⟩ := (h.below Kr).get hlt
      obtain ⟨b', o', rfl, _, hc'⟩ := (h'.below Kr).get hlt
      generalize gi xs k = y at hc hc'
      have e1 : (y != y) = false := by simp
      go_wp2
      go_quiet (fail)
      go_wp2
      go_roundw
      case rel => exact ⟨k + 1, by omega, by go_num, Kr.trans ((drewN_below _ _).mono Kr.size)⟩
      case measure => simp [intOf]; omega
    · go_wp2
      go_ret
      exact ⟨rfl, Kr⟩
theorem much31 : Much 0 31 2 := ⟨by decide +kernel, by decide +kernel⟩
theorem no_items {k : IntKind} {lo : Nat} {w : World} {A : Option Addr} {n c : Nat} (h : IS k lo w A n c []) : n ≤ 65000 := by have := h.len; simp at this; omega
/-- A block of integers of the call's own, as a list that is read. -/
theorem Loc.ints_ {w0 w : World} {bs : List Bl} {fs : List Fct} {k : IntKind} {n g lo : Nat} {t : TypeId} (h : Loc w0 w bs fs) (i : Nat) (xs : List Int) (hi : nth bs i = some (g, t, (xs.map (iv k)).toArray)) (hm : xs.length = n) (h9 : n ≤ 65536) (hlo : lo ≤ g) : IS k lo w (some ⟨g, 0, none⟩) n n xs := by
  refine ⟨hm, Nat.le_refl _, by unfold maxLen; omega, (fun e => by cases e), fun hn => ⟨g, 0, rfl, hlo, h.lt i hi, fun j hj => ?_⟩⟩
  have hj' : j < xs.length := by omega
  rw [gi_at hj']
  exact h.at_ i (0 + j) hi (by simp [hj', iv])
section
variable {w : World} {h : Hd} {s : Sc}
set_option maxRecDepth 100000 in
set_option maxHeartbeats 4000000 in
theorem gives_38 (hk : s.kind = 3) (hph : s.phase = 8) :
    Calls Try.prog 18 #[.agg (opv h s)] w (RetBo true w) := by
  rcases s with ⟨kind, addr, err, aad, used, phase, shard, sought, leaf, bit, word, full, at_, tries, item, stamp⟩
  rcases h with ⟨A0, n0, c0, A1, n1, c1, A2, n2, c2, A3, n3, c3⟩
  try dsimp only at *
  subst hk
  subst hph
  go_enter Try.func18, Try.ntmps18
  go_upto_region 1 with (fail)
  have L := Loc.start w
  replace L := (L).alloc (opv ⟨A0, n0, c0, A1, n1, c1, A2, n2, c2, A3, n3, c3⟩ ⟨3, addr, err, aad, used, 8, shard, sought, leaf, bit, word, full, at_, tries, item, stamp⟩) 42
  try simp only [World.size_alloc] at L
  try dsimp only [nput] at L
  generalize (w).alloc (.cells (opv ⟨A0, n0, c0, A1, n1, c1, A2, n2, c2, A3, n3, c3⟩ ⟨3, addr, err, aad, used, 8, shard, sought, leaf, bit, word, full, at_, tries, item, stamp⟩) 42) = w1 at L ⊢
  generalize w.heap.size = gO at L ⊢
  have O_0 := L.at_ 0 0 rfl (v := .int .i64 3) rfl
  have O_8 := L.at_ 0 8 rfl (v := .int .i64 8) rfl
  have O_z := L.lt 0 rfl
  go_wp2_with fail
  clear O_0 O_8 O_z
  go_ret
  exact ⟨rfl, L.K⟩
set_option maxRecDepth 100000 in
set_option maxHeartbeats 4000000 in
theorem gives_39 (hk : s.kind = 3) (hph : s.phase = 9) :
    Calls Try.prog 18 #[.agg (opv h s)] w (RetBo true w) := by
  rcases s with ⟨kind, addr, err, aad, used, phase, shard, sought, leaf, bit, word, full, at_, tries, item, stamp⟩
  rcases h with ⟨A0, n0, c0, A1, n1, c1, A2, n2, c2, A3, n3, c3⟩
  try dsimp only at *
  subst hk
  subst hph
  go_enter Try.func18, Try.ntmps18
  go_upto_region 1 with (fail)
  have L := Loc.start w
  replace L := (L).alloc (opv ⟨A0, n0, c0, A1, n1, c1, A2, n2, c2, A3, n3, c3⟩ ⟨3, addr, err, aad, used, 9, shard, sought, leaf, bit, word, full, at_, tries, item, stamp⟩) 42
  try simp only [World.size_alloc] at L
  try dsimp only [nput] at L
  generalize (w).alloc (.cells (opv ⟨A0, n0, c0, A1, n1, c1, A2, n2, c2, A3, n3, c3⟩ ⟨3, addr, err, aad, used, 9, shard, sought, leaf, bit, word, full, at_, tries, item, stamp⟩) 42) = w1 at L ⊢
  generalize w.heap.size = gO at L ⊢
  have O_0 := L.at_ 0 0 rfl (v := .int .i64 3) rfl
  have O_8 := L.at_ 0 8 rfl (v := .int .i64 9) rfl
  have O_z := L.lt 0 rfl
  go_wp2_with fail
  clear O_0 O_8 O_z
  go_ret
  exact ⟨rfl, L.K⟩
set_option maxRecDepth 100000 in
set_option maxHeartbeats 4000000 in
theorem gives_3n (hk : s.kind = 3) (h8 : s.phase ≠ 8) (h9 : s.phase ≠ 9) :
    Calls Try.prog 18 #[.agg (opv h s)] w (RetBo false w) := by
  have f8 : (s.phase == 8) = false := by simp [h8]
  have f9 : (s.phase == 9) = false := by simp [h9]
  clear h8 h9
  rcases s with ⟨kind, addr, err, aad, used, phase, shard, sought, leaf, bit, word, full, at_, tries, item, stamp⟩
  rcases h with ⟨A0, n0, c0, A1, n1, c1, A2, n2, c2, A3, n3, c3⟩
  try dsimp only at *
  subst hk
  go_enter Try.func18, Try.ntmps18
  go_upto_region 1 with (fail)
  have L := Loc.start w
  replace L := (L).alloc (opv ⟨A0, n0, c0, A1, n1, c1, A2, n2, c2, A3, n3, c3⟩ ⟨3, addr, err, aad, used, phase, shard, sought, leaf, bit, word, full, at_, tries, item, stamp⟩) 42
  try simp only [World.size_alloc] at L
  try dsimp only [nput] at L
  generalize (w).alloc (.cells (opv ⟨A0, n0, c0, A1, n1, c1, A2, n2, c2, A3, n3, c3⟩ ⟨3, addr, err, aad, used, phase, shard, sought, leaf, bit, word, full, at_, tries, item, stamp⟩) 42) = w1 at L ⊢
  generalize w.heap.size = gO at L ⊢
  have O_0 := L.at_ 0 0 rfl (v := .int .i64 3) rfl
  have O_8 := L.at_ 0 8 rfl (v := .int .i64 phase) rfl
  have O_z := L.lt 0 rfl
  go_wp2_with fail
  clear O_0 O_8 O_z
  go_ret
  exact ⟨rfl, L.K⟩
set_option maxRecDepth 100000 in
set_option maxHeartbeats 4000000 in
theorem gives_48 (hk : s.kind = 4) (hph : s.phase = 8) :
    Calls Try.prog 18 #[.agg (opv h s)] w (RetBo true w) := by
  rcases s with ⟨kind, addr, err, aad, used, phase, shard, sought, leaf, bit, word, full, at_, tries, item, stamp⟩
  rcases h with ⟨A0, n0, c0, A1, n1, c1, A2, n2, c2, A3, n3, c3⟩
  try dsimp only at *
  subst hk
  subst hph
  go_enter Try.func18, Try.ntmps18
  go_upto_region 1 with (fail)
  have L := Loc.start w
  replace L := (L).alloc (opv ⟨A0, n0, c0, A1, n1, c1, A2, n2, c2, A3, n3, c3⟩ ⟨4, addr, err, aad, used, 8, shard, sought, leaf, bit, word, full, at_, tries, item, stamp⟩) 42
  try simp only [World.size_alloc] at L
  try dsimp only [nput] at L
  generalize (w).alloc (.cells (opv ⟨A0, n0, c0, A1, n1, c1, A2, n2, c2, A3, n3, c3⟩ ⟨4, addr, err, aad, used, 8, shard, sought, leaf, bit, word, full, at_, tries, item, stamp⟩) 42) = w1 at L ⊢
  generalize w.heap.size = gO at L ⊢
  have O_0 := L.at_ 0 0 rfl (v := .int .i64 4) rfl
  have O_8 := L.at_ 0 8 rfl (v := .int .i64 8) rfl
  have O_z := L.lt 0 rfl
  go_wp2_with fail
  clear O_0 O_8 O_z
  go_ret
  exact ⟨rfl, L.K⟩
set_option maxRecDepth 100000 in
set_option maxHeartbeats 4000000 in
theorem gives_49 (hk : s.kind = 4) (hph : s.phase = 9) :
    Calls Try.prog 18 #[.agg (opv h s)] w (RetBo true w) := by
  rcases s with ⟨kind, addr, err, aad, used, phase, shard, sought, leaf, bit, word, full, at_, tries, item, stamp⟩
  rcases h with ⟨A0, n0, c0, A1, n1, c1, A2, n2, c2, A3, n3, c3⟩
  try dsimp only at *
  subst hk
  subst hph
  go_enter Try.func18, Try.ntmps18
  go_upto_region 1 with (fail)
  have L := Loc.start w
  replace L := (L).alloc (opv ⟨A0, n0, c0, A1, n1, c1, A2, n2, c2, A3, n3, c3⟩ ⟨4, addr, err, aad, used, 9, shard, sought, leaf, bit, word, full, at_, tries, item, stamp⟩) 42
  try simp only [World.size_alloc] at L
  try dsimp only [nput] at L
  generalize (w).alloc (.cells (opv ⟨A0, n0, c0, A1, n1, c1, A2, n2, c2, A3, n3, c3⟩ ⟨4, addr, err, aad, used, 9, shard, sought, leaf, bit, word, full, at_, tries, item, stamp⟩) 42) = w1 at L ⊢
  generalize w.heap.size = gO at L ⊢
  have O_0 := L.at_ 0 0 rfl (v := .int .i64 4) rfl
  have O_8 := L.at_ 0 8 rfl (v := .int .i64 9) rfl
  have O_z := L.lt 0 rfl
  go_wp2_with fail
  clear O_0 O_8 O_z
  go_ret
  exact ⟨rfl, L.K⟩
set_option maxRecDepth 100000 in
set_option maxHeartbeats 4000000 in
theorem gives_4n (hk : s.kind = 4) (h8 : s.phase ≠ 8) (h9 : s.phase ≠ 9) :
    Calls Try.prog 18 #[.agg (opv h s)] w (RetBo false w) := by
  have f8 : (s.phase == 8) = false := by simp [h8]
  have f9 : (s.phase == 9) = false := by simp [h9]
  clear h8 h9
  rcases s with ⟨kind, addr, err, aad, used, phase, shard, sought, leaf, bit, word, full, at_, tries, item, stamp⟩
  rcases h with ⟨A0, n0, c0, A1, n1, c1, A2, n2, c2, A3, n3, c3⟩
  try dsimp only at *
  subst hk
  go_enter Try.func18, Try.ntmps18
  go_upto_region 1 with (fail)
  have L := Loc.start w
  replace L := (L).alloc (opv ⟨A0, n0, c0, A1, n1, c1, A2, n2, c2, A3, n3, c3⟩ ⟨4, addr, err, aad, used, phase, shard, sought, leaf, bit, word, full, at_, tries, item, stamp⟩) 42
  try simp only [World.size_alloc] at L
  try dsimp only [nput] at L
  generalize (w).alloc (.cells (opv ⟨A0, n0, c0, A1, n1, c1, A2, n2, c2, A3, n3, c3⟩ ⟨4, addr, err, aad, used, phase, shard, sought, leaf, bit, word, full, at_, tries, item, stamp⟩) 42) = w1 at L ⊢
  generalize w.heap.size = gO at L ⊢
  have O_0 := L.at_ 0 0 rfl (v := .int .i64 4) rfl
  have O_8 := L.at_ 0 8 rfl (v := .int .i64 phase) rfl
  have O_z := L.lt 0 rfl
  go_wp2_with fail
  clear O_0 O_8 O_z
  go_ret
  exact ⟨rfl, L.K⟩
set_option maxRecDepth 100000 in
set_option maxHeartbeats 4000000 in
theorem gives_n (h3 : s.kind ≠ 3) (h4 : s.kind ≠ 4) :
    Calls Try.prog 18 #[.agg (opv h s)] w (RetBo false w) := by
  have f3 : (s.kind == 3) = false := by simp [h3]
  have f4 : (s.kind == 4) = false := by simp [h4]
  clear h3 h4
  rcases s with ⟨kind, addr, err, aad, used, phase, shard, sought, leaf, bit, word, full, at_, tries, item, stamp⟩
  rcases h with ⟨A0, n0, c0, A1, n1, c1, A2, n2, c2, A3, n3, c3⟩
  try dsimp only at *
  go_enter Try.func18, Try.ntmps18
  go_upto_region 1 with (fail)
  have L := Loc.start w
  replace L := (L).alloc (opv ⟨A0, n0, c0, A1, n1, c1, A2, n2, c2, A3, n3, c3⟩ ⟨kind, addr, err, aad, used, phase, shard, sought, leaf, bit, word, full, at_, tries, item, stamp⟩) 42
  try simp only [World.size_alloc] at L
  try dsimp only [nput] at L
  generalize (w).alloc (.cells (opv ⟨A0, n0, c0, A1, n1, c1, A2, n2, c2, A3, n3, c3⟩ ⟨kind, addr, err, aad, used, phase, shard, sought, leaf, bit, word, full, at_, tries, item, stamp⟩) 42) = w1 at L ⊢
  generalize w.heap.size = gO at L ⊢
  have O_0 := L.at_ 0 0 rfl (v := .int .i64 kind) rfl
  have O_8 := L.at_ 0 8 rfl (v := .int .i64 phase) rfl
  have O_z := L.lt 0 rfl
  go_wp2_with fail
  clear O_0 O_8 O_z
  go_ret
  exact ⟨rfl, L.K⟩
theorem gives_at (hk : s.kind = 3 ∨ s.kind = 4) (hph : s.phase = 8 ∨ s.phase = 9) :
    Calls Try.prog 18 #[.agg (opv h s)] w (RetBo true w) := by
  rcases hk with hk | hk <;> rcases hph with hph | hph
  · exact gives_38 hk hph
  · exact gives_39 hk hph
  · exact gives_48 hk hph
  · exact gives_49 hk hph
theorem gives_no (hn : ¬ ((s.kind = 3 ∨ s.kind = 4) ∧ (s.phase = 8 ∨ s.phase = 9))) :
    Calls Try.prog 18 #[.agg (opv h s)] w (RetBo false w) := by
  by_cases h3 : s.kind = 3
  · exact gives_3n h3 (fun e => hn ⟨.inl h3, .inl e⟩) (fun e => hn ⟨.inl h3, .inr e⟩)
  · by_cases h4 : s.kind = 4
    · exact gives_4n h4 (fun e => hn ⟨.inr h4, .inl e⟩) (fun e => hn ⟨.inr h4, .inr e⟩)
    · exact gives_n h3 h4
end
theorem in_10 : InB 0 2 2 [1, 0] := fun i hi => by
  match i, hi with
  | 0, _ => exact ⟨1, rfl, by omega, by omega⟩
  | 1, _ => exact ⟨0, rfl, by omega, by omega⟩
  | i + 2, h => omega
theorem aw1_e : useS ⟨3, 0, 0, 0, false, 8, 0, 0, 0, 0, 0, false, 0, 0, 0, 0⟩ (gt [4294967293, 0, 0] 0) = ⟨3, 0, 0, 0, false, 9, 0, 0, 0, 0, 4294967293, false, 0, 0, 0, 0⟩ := by kernel_rfl
theorem aw1 {A0 A1 A2 A3 B : Option Addr} {c0 n1 c1 n2 c2 n3 c3 d lo : Nat} {w : World} (L : Lists lo w ⟨A0, 0, c0, A1, n1, c1, A2, n2, c2, A3, n3, c3⟩ ⟨[], [], [], []⟩) (U : US w B 3 d [4294967293, 0, 0]) :
    Calls Try.prog 10 #[.agg #[.int .u32 0, .int .i64 31, .slice none 0 0, .int .i64 1, .int .i64 1, .int .i64 1, .int .i64 1], .slice B 3 d, .agg (opv ⟨A0, 0, c0, A1, n1, c1, A2, n2, c2, A3, n3, c3⟩ ⟨3, 0, 0, 0, false, 8, 0, 0, 0, 0, 0, false, 0, 0, 0, 0⟩)] w (RetStp w.heap.size 0 ⟨3, 0, 0, 0, false, 9, 0, 0, 0, 0, 4294967293, false, 0, 0, 0, 0⟩ ⟨[], [], [], []⟩ 3 [4294967293, 0, 0] false B w) := by
  have h := dstep_used (a := 0) (p := 31) (M := 2) (sh := 1) (wo := 1) (qu := 1) (tr := 1) (A := none) (n := 0) (c := 0) (lf := 0) (bt := 0) (xs := []) (h := ⟨A0, 0, c0, A1, n1, c1, A2, n2, c2, A3, n3, c3⟩) (s := ⟨3, 0, 0, 0, false, 8, 0, 0, 0, 0, 0, false, 0, 0, 0, 0⟩) L (by omega) much31 L.i0 (by show 0 ≤ 65536; omega) (fun i hi => absurd hi (by show ¬ i < 0; omega)) (by have := no_items L.i1; omega) (no_items L.i2) (by have := no_items L.i3; omega) U rfl (by omega) rfl (by omega) (by show (3 : Int) = 3 ∨ (3 : Int) = 4; omega) rfl (by kernel_rfl)
  exact (aw1_e ▸ h)
theorem aw2_e : hitS 0 0 [] ⟨3, 0, 0, 0, false, 9, 0, 0, 0, 0, 4294967293, false, 0, 0, 0, 0⟩ = ⟨3, 0, 0, 0, false, 0, 0, 0, 0, 0, 0, false, 0, 0, 0, 0⟩ := by kernel_rfl
theorem aw2 {A0 A1 A2 A3 B : Option Addr} {c0 n1 c1 n2 c2 n3 c3 d lo : Nat} {w : World} (L : Lists lo w ⟨A0, 0, c0, A1, n1, c1, A2, n2, c2, A3, n3, c3⟩ ⟨[], [], [], []⟩) (U : US w B 3 d [4294967293, 0, 0]) :
    Calls Try.prog 10 #[.agg #[.int .u32 0, .int .i64 31, .slice none 0 0, .int .i64 1, .int .i64 1, .int .i64 1, .int .i64 1], .slice B 3 d, .agg (opv ⟨A0, 0, c0, A1, n1, c1, A2, n2, c2, A3, n3, c3⟩ ⟨3, 0, 0, 0, false, 9, 0, 0, 0, 0, 4294967293, false, 0, 0, 0, 0⟩)] w (RetStp w.heap.size 0 ⟨3, 0, 0, 0, false, 0, 0, 0, 0, 0, 0, false, 0, 0, 0, 0⟩ ⟨[], [], [], []⟩ 3 [8589934588, 0, 0] true B w) := by
  have h := dstep_hit (a := 0) (p := 31) (M := 2) (sh := 1) (wo := 1) (qu := 1) (tr := 1) (A := none) (n := 0) (c := 0) (lf := 0) (bt := 0) (xs := []) (h := ⟨A0, 0, c0, A1, n1, c1, A2, n2, c2, A3, n3, c3⟩) (s := ⟨3, 0, 0, 0, false, 9, 0, 0, 0, 0, 4294967293, false, 0, 0, 0, 0⟩) L (by omega) much31 L.i0 (by show 0 ≤ 65536; omega) (fun i hi => absurd hi (by show ¬ i < 0; omega)) (by have := no_items L.i1; omega) (no_items L.i2) (by have := no_items L.i3; omega) U rfl (by omega) rfl (by omega) (by show (3 : Int) = 3 ∨ (3 : Int) = 4; omega) rfl (by omega) (by show 4294967293 < 18446744073709551616; omega) (by kernel_rfl)
  exact (aw2_e ▸ h)
theorem aw3_e : rdS ⟨3, 0, 0, 0, false, 9, 0, 0, 0, 0, 4294967293, false, 0, 0, 0, 0⟩ = ⟨3, 0, 0, 0, false, 8, 0, 0, 0, 0, 0, false, 0, 0, 0, 0⟩ := by kernel_rfl
theorem aw3 {A0 A1 A2 A3 B : Option Addr} {c0 n1 c1 n2 c2 n3 c3 d lo : Nat} {w : World} (L : Lists lo w ⟨A0, 0, c0, A1, n1, c1, A2, n2, c2, A3, n3, c3⟩ ⟨[], [], [], []⟩) (U : US w B 3 d [8589934588, 0, 0]) :
    Calls Try.prog 10 #[.agg #[.int .u32 0, .int .i64 31, .slice none 0 0, .int .i64 1, .int .i64 1, .int .i64 1, .int .i64 1], .slice B 3 d, .agg (opv ⟨A0, 0, c0, A1, n1, c1, A2, n2, c2, A3, n3, c3⟩ ⟨3, 0, 0, 0, false, 9, 0, 0, 0, 0, 4294967293, false, 0, 0, 0, 0⟩)] w (RetStp w.heap.size 0 ⟨3, 0, 0, 0, false, 8, 0, 0, 0, 0, 0, false, 0, 0, 0, 0⟩ ⟨[], [], [], []⟩ 3 [8589934588, 0, 0] false B w) := by
  have h := dstep_miss (a := 0) (p := 31) (M := 2) (sh := 1) (wo := 1) (qu := 1) (tr := 1) (A := none) (n := 0) (c := 0) (lf := 0) (bt := 0) (xs := []) (h := ⟨A0, 0, c0, A1, n1, c1, A2, n2, c2, A3, n3, c3⟩) (s := ⟨3, 0, 0, 0, false, 9, 0, 0, 0, 0, 4294967293, false, 0, 0, 0, 0⟩) L (by omega) much31 L.i0 (by show 0 ≤ 65536; omega) (fun i hi => absurd hi (by show ¬ i < 0; omega)) (by have := no_items L.i1; omega) (no_items L.i2) (by have := no_items L.i3; omega) U rfl (by omega) rfl (by omega) (by show (3 : Int) = 3 ∨ (3 : Int) = 4; omega) rfl (by omega) (by show 4294967293 < 18446744073709551616; omega) (by show ¬ (8589934588 = 4294967293); omega)
  exact (aw3_e ▸ h)
theorem aw4_e : freeS 0 0 [] ⟨3, 0, 0, 0, false, 8, 0, 0, 0, 0, 0, false, 0, 0, 0, 0⟩ = ⟨3, 0, 6, 0, false, 0, 0, 0, 0, 0, 0, false, 0, 0, 0, 0⟩ := by kernel_rfl
theorem aw4 {A0 A1 A2 A3 B : Option Addr} {c0 n1 c1 n2 c2 n3 c3 d lo : Nat} {w : World} (L : Lists lo w ⟨A0, 0, c0, A1, n1, c1, A2, n2, c2, A3, n3, c3⟩ ⟨[], [], [], []⟩) (U : US w B 3 d [8589934588, 0, 0]) :
    Calls Try.prog 10 #[.agg #[.int .u32 0, .int .i64 31, .slice none 0 0, .int .i64 1, .int .i64 1, .int .i64 1, .int .i64 1], .slice B 3 d, .agg (opv ⟨A0, 0, c0, A1, n1, c1, A2, n2, c2, A3, n3, c3⟩ ⟨3, 0, 0, 0, false, 8, 0, 0, 0, 0, 0, false, 0, 0, 0, 0⟩)] w (RetStp w.heap.size 0 ⟨3, 0, 6, 0, false, 0, 0, 0, 0, 0, 0, false, 0, 0, 0, 0⟩ ⟨[], [], [], []⟩ 3 [8589934588, 0, 0] true B w) := by
  have h := dstep_free (a := 0) (p := 31) (M := 2) (sh := 1) (wo := 1) (qu := 1) (tr := 1) (A := none) (n := 0) (c := 0) (lf := 0) (bt := 0) (xs := []) (h := ⟨A0, 0, c0, A1, n1, c1, A2, n2, c2, A3, n3, c3⟩) (s := ⟨3, 0, 0, 0, false, 8, 0, 0, 0, 0, 0, false, 0, 0, 0, 0⟩) L (by omega) much31 L.i0 (by show 0 ≤ 65536; omega) (fun i hi => absurd hi (by show ¬ i < 0; omega)) (by have := no_items L.i1; omega) (no_items L.i2) (by have := no_items L.i3; omega) U rfl (by omega) rfl (by omega) (by show (3 : Int) = 3 ∨ (3 : Int) = 4; omega) rfl (by kernel_rfl)
  exact (aw4_e ▸ h)
theorem aw5_e : freeS 0 2 [1, 0] ⟨4, 0, 0, 0, false, 8, 0, 0, 0, 1, 0, false, 0, 0, 0, 0⟩ = ⟨4, 0, 0, 0, false, 8, 0, 0, 0, 0, 0, false, 0, 0, 1, 0⟩ := by kernel_rfl
theorem aw5 {A1 A2 A3 B : Option Addr} {n1 c1 n2 c2 n3 c3 d lo : Nat} {w : World} {g0 lo2 : Nat} (hI : IS .u32 lo2 w (some ⟨g0, 0, none⟩) 2 2 [1, 0]) (L : Lists lo w ⟨(some ⟨g0, 0, none⟩), 2, 2, A1, n1, c1, A2, n2, c2, A3, n3, c3⟩ ⟨[1, 0], [], [], []⟩) (U : US w B 3 d [4294967293, 0, 0]) :
    Calls Try.prog 10 #[.agg #[.int .u32 0, .int .i64 31, .slice none 0 0, .int .i64 1, .int .i64 1, .int .i64 1, .int .i64 1], .slice B 3 d, .agg (opv ⟨(some ⟨g0, 0, none⟩), 2, 2, A1, n1, c1, A2, n2, c2, A3, n3, c3⟩ ⟨4, 0, 0, 0, false, 8, 0, 0, 0, 1, 0, false, 0, 0, 0, 0⟩)] w (RetStp w.heap.size 2 ⟨4, 0, 0, 0, false, 8, 0, 0, 0, 0, 0, false, 0, 0, 1, 0⟩ ⟨[1, 0], [], [6], []⟩ 3 [4294967293, 0, 0] true B w) := by
  have h := dstep_free (a := 0) (p := 31) (M := 2) (sh := 1) (wo := 1) (qu := 1) (tr := 1) (A := none) (n := 0) (c := 0) (lf := 0) (bt := 1) (xs := [1, 0]) (h := ⟨(some ⟨g0, 0, none⟩), 2, 2, A1, n1, c1, A2, n2, c2, A3, n3, c3⟩) (s := ⟨4, 0, 0, 0, false, 8, 0, 0, 0, 1, 0, false, 0, 0, 0, 0⟩) L (by omega) much31 hI (by show 2 ≤ 65536; omega) in_10 (by have := no_items L.i1; omega) (no_items L.i2) (by have := no_items L.i3; omega) U rfl (by omega) rfl (by omega) (by show (4 : Int) = 3 ∨ (4 : Int) = 4; omega) rfl (by kernel_rfl)
  exact (aw5_e ▸ h)
set_option maxRecDepth 100000 in
set_option maxHeartbeats 4000000 in
theorem awake_any (w : World) :
    Calls Try.prog 7 #[] w (RetBo true w) := by
  go_enter Try.func7, Try.ntmps7
  go_upto_region 1 with (fail)
  have L := Loc.start w
  go_upto_region 2 with (refine wpList_store_row rfl 27 (.tmp 1) (.tmp 20) rfl _ _ rfl (show _ = Value.agg (#[.int .u32 0, .int .i64 31, .slice none 0 0, .int .i64 1, .int .i64 1, .int .i64 1, .int .i64 1]) from rfl) _ _ (Bk.new _ _ _) cf_sz rfl (by simp [Value.oneCell']) ?_)
  try rw [World.setRow_alloc_new]
  replace L := (L).alloc #[.int .u32 0, .int .i64 31, .slice none 0 0, .int .i64 1, .int .i64 1, .int .i64 1, .int .i64 1] 27
  try simp only [World.size_alloc] at L
  try dsimp only [nput] at L
  generalize (w).alloc (.cells #[.int .u32 0, .int .i64 31, .slice none 0 0, .int .i64 1, .int .i64 1, .int .i64 1, .int .i64 1] 27) = w1 at L ⊢
  generalize w.heap.size = gH at L ⊢
  go_upto_region 3 with fail
  replace L := (L).alloc #[.int .u64 4294967293, .int .u64 0, .int .u64 0] 40
  try simp only [World.size_alloc] at L
  try dsimp only [nput] at L
  generalize (w1).alloc (.cells #[.int .u64 4294967293, .int .u64 0, .int .u64 0] 40) = w2 at L ⊢
  generalize w1.heap.size = gY21 at L ⊢
  replace L := L.cells_ (n := 3) 0 [4294967293, 0, 0] rfl (by decide +kernel) rfl (by decide)
  try dsimp only [ndel] at L
  go_upto_region 4 with (refine wpList_store_row rfl 42 (.tmp 3) (.tmp 23) rfl _ _ rfl (show _ = Value.agg (opv ⟨none, 0, 0, none, 0, 0, none, 0, 0, none, 0, 0⟩ ⟨3, 0, 0, 0, false, 8, 0, 0, 0, 0, 0, false, 0, 0, 0, 0⟩) from rfl) _ _ (Bk.new _ _ _) op_sz rfl (opv_one _ _) ?_)
  try rw [World.setRow_alloc_new]
  replace L := (L).alloc (opv ⟨none, 0, 0, none, 0, 0, none, 0, 0, none, 0, 0⟩ ⟨3, 0, 0, 0, false, 8, 0, 0, 0, 0, 0, false, 0, 0, 0, 0⟩) 42
  try simp only [World.size_alloc] at L
  try dsimp only [nput] at L
  generalize (w2).alloc (.cells (opv ⟨none, 0, 0, none, 0, 0, none, 0, 0, none, 0, 0⟩ ⟨3, 0, 0, 0, false, 8, 0, 0, 0, 0, 0, false, 0, 0, 0, 0⟩) 42) = w3 at L ⊢
  generalize w2.heap.size = gO at L ⊢
  go_wp2_with (first | (refine wpList_load_row rfl 27 (.tmp 1) rfl gH rfl _ _ (0, 0) _ (L.bk_ 1 rfl) Try.underlying27 rfl cf_sz ?_) | (refine wpList_load_row rfl 42 (.tmp 3) rfl gO rfl _ _ (0, 0) _ (L.bk_ 0 rfl) Try.underlying42 rfl op_sz ?_))
  refine (aw1 (Lists.hd0 (lo := 0) _) (L.us_ 0 rfl)).mono ?_
  rintro e w4 ⟨A0_1, c0_1, A1_1, n1_1, c1_1, A2_1, n2_1, c2_1, A3_1, n3_1, c3_1, B_1, d_1, rfl, U, L', hA, K'⟩
  have Lb := L.lts
  replace L := L.over K'
  replace L := L.us_av (fun i b e => hA b.1 (Lb i b e) (L.ap_ 0 rfl (by decide) i b e)) U
  replace L := L.lists Lb L'
  clear Lb
  try dsimp only [lF, List.cons_append, List.nil_append] at L
  clear L' U hA
  go_upto_region 5 with (refine wpList_store_row rfl 42 (.tmp 5) (.tmp 30) rfl _ _ rfl (show _ = Value.agg (opv ⟨A0_1, 0, c0_1, A1_1, n1_1, c1_1, A2_1, n2_1, c2_1, A3_1, n3_1, c3_1⟩ ⟨3, 0, 0, 0, false, 9, 0, 0, 0, 0, 4294967293, false, 0, 0, 0, 0⟩) from rfl) _ _ (Bk.new _ _ _) op_sz rfl (opv_one _ _) ?_)
  try rw [World.setRow_alloc_new]
  replace L := (L).alloc (opv ⟨A0_1, 0, c0_1, A1_1, n1_1, c1_1, A2_1, n2_1, c2_1, A3_1, n3_1, c3_1⟩ ⟨3, 0, 0, 0, false, 9, 0, 0, 0, 0, 4294967293, false, 0, 0, 0, 0⟩) 42
  try simp only [World.size_alloc] at L
  try dsimp only [nput] at L
  generalize (w4).alloc (.cells (opv ⟨A0_1, 0, c0_1, A1_1, n1_1, c1_1, A2_1, n2_1, c2_1, A3_1, n3_1, c3_1⟩ ⟨3, 0, 0, 0, false, 9, 0, 0, 0, 0, 4294967293, false, 0, 0, 0, 0⟩) 42) = w5 at L ⊢
  generalize w4.heap.size = gP at L ⊢
  go_wp2_with (first | (refine wpList_load_row rfl 27 (.tmp 1) rfl gH rfl _ _ (0, 0) _ (L.bk_ 2 rfl) Try.underlying27 rfl cf_sz ?_) | (refine wpList_load_row rfl 42 (.tmp 5) rfl gP rfl _ _ (0, 0) _ (L.bk_ 0 rfl) Try.underlying42 rfl op_sz ?_))
  refine (aw2 (L.lists_at 0 rfl) (L.us_ 4 rfl)).mono ?_
  rintro e w6 ⟨A0_2, c0_2, A1_2, n1_2, c1_2, A2_2, n2_2, c2_2, A3_2, n3_2, c3_2, B_2, d_2, rfl, U, L', hA, K'⟩
  have Lb := L.lts
  replace L := L.over K'
  replace L := L.us_av (fun i b e => hA b.1 (Lb i b e) (L.ap_ 4 rfl (by decide) i b e)) U
  replace L := L.lists Lb L'
  clear Lb
  try dsimp only [lF, List.cons_append, List.nil_append] at L
  clear L' U hA
  go_upto_region 6 with (refine wpList_store_row rfl 42 (.tmp 8) (.tmp 38) rfl _ _ rfl (show _ = Value.agg (opv ⟨A0_2, 0, c0_2, A1_2, n1_2, c1_2, A2_2, n2_2, c2_2, A3_2, n3_2, c3_2⟩ ⟨3, 0, 0, 0, false, 0, 0, 0, 0, 0, 0, false, 0, 0, 0, 0⟩) from rfl) _ _ (Bk.new _ _ _) op_sz rfl (opv_one _ _) ?_)
  try rw [World.setRow_alloc_new]
  replace L := (L).alloc (opv ⟨A0_2, 0, c0_2, A1_2, n1_2, c1_2, A2_2, n2_2, c2_2, A3_2, n3_2, c3_2⟩ ⟨3, 0, 0, 0, false, 0, 0, 0, 0, 0, 0, false, 0, 0, 0, 0⟩) 42
  try simp only [World.size_alloc] at L
  try dsimp only [nput] at L
  generalize (w6).alloc (.cells (opv ⟨A0_2, 0, c0_2, A1_2, n1_2, c1_2, A2_2, n2_2, c2_2, A3_2, n3_2, c3_2⟩ ⟨3, 0, 0, 0, false, 0, 0, 0, 0, 0, 0, false, 0, 0, 0, 0⟩) 42) = w7 at L ⊢
  generalize w6.heap.size = gQ at L ⊢
  go_wp2_with (first | (refine wpList_load_row rfl 27 (.tmp 1) rfl gH rfl _ _ (0, 0) _ (L.bk_ 3 rfl) Try.underlying27 rfl cf_sz ?_) | (refine wpList_load_row rfl 42 (.tmp 5) rfl gP rfl _ _ (0, 0) _ (L.bk_ 1 rfl) Try.underlying42 rfl op_sz ?_))
  refine (aw3 (L.lists_at 5 rfl) (L.us_ 4 rfl)).mono ?_
  rintro e w8 ⟨A0_3, c0_3, A1_3, n1_3, c1_3, A2_3, n2_3, c2_3, A3_3, n3_3, c3_3, B_3, d_3, rfl, U, L', hA, K'⟩
  have Lb := L.lts
  replace L := L.over K'
  replace L := L.us_av (fun i b e => hA b.1 (Lb i b e) (L.ap_ 4 rfl (by decide) i b e)) U
  replace L := L.lists Lb L'
  clear Lb
  try dsimp only [lF, List.cons_append, List.nil_append] at L
  clear L' U hA
  go_upto_region 7 with (refine wpList_store_row rfl 42 (.tmp 11) (.tmp 46) rfl _ _ rfl (show _ = Value.agg (opv ⟨A0_3, 0, c0_3, A1_3, n1_3, c1_3, A2_3, n2_3, c2_3, A3_3, n3_3, c3_3⟩ ⟨3, 0, 0, 0, false, 8, 0, 0, 0, 0, 0, false, 0, 0, 0, 0⟩) from rfl) _ _ (Bk.new _ _ _) op_sz rfl (opv_one _ _) ?_)
  try rw [World.setRow_alloc_new]
  replace L := (L).alloc (opv ⟨A0_3, 0, c0_3, A1_3, n1_3, c1_3, A2_3, n2_3, c2_3, A3_3, n3_3, c3_3⟩ ⟨3, 0, 0, 0, false, 8, 0, 0, 0, 0, 0, false, 0, 0, 0, 0⟩) 42
  try simp only [World.size_alloc] at L
  try dsimp only [nput] at L
  generalize (w8).alloc (.cells (opv ⟨A0_3, 0, c0_3, A1_3, n1_3, c1_3, A2_3, n2_3, c2_3, A3_3, n3_3, c3_3⟩ ⟨3, 0, 0, 0, false, 8, 0, 0, 0, 0, 0, false, 0, 0, 0, 0⟩) 42) = w9 at L ⊢
  generalize w8.heap.size = gR at L ⊢
  go_wp2_with (first | (refine wpList_load_row rfl 27 (.tmp 1) rfl gH rfl _ _ (0, 0) _ (L.bk_ 4 rfl) Try.underlying27 rfl cf_sz ?_) | (refine wpList_load_row rfl 42 (.tmp 3) rfl gO rfl _ _ (0, 0) _ (L.bk_ 3 rfl) Try.underlying42 rfl op_sz ?_))
  refine (aw4 (Lists.hd0 (lo := 0) _) (L.us_ 9 rfl)).mono ?_
  rintro e w10 ⟨A0_4, c0_4, A1_4, n1_4, c1_4, A2_4, n2_4, c2_4, A3_4, n3_4, c3_4, B_4, d_4, rfl, U, L', hA, K'⟩
  have Lb := L.lts
  replace L := L.over K'
  replace L := L.us_av (fun i b e => hA b.1 (Lb i b e) (L.ap_ 9 rfl (by decide) i b e)) U
  replace L := L.lists Lb L'
  clear Lb
  try dsimp only [lF, List.cons_append, List.nil_append] at L
  clear L' U hA
  go_upto_region 8 with (refine wpList_store_row rfl 42 (.tmp 14) (.tmp 54) rfl _ _ rfl (show _ = Value.agg (opv ⟨A0_4, 0, c0_4, A1_4, n1_4, c1_4, A2_4, n2_4, c2_4, A3_4, n3_4, c3_4⟩ ⟨3, 0, 6, 0, false, 0, 0, 0, 0, 0, 0, false, 0, 0, 0, 0⟩) from rfl) _ _ (Bk.new _ _ _) op_sz rfl (opv_one _ _) ?_)
  try rw [World.setRow_alloc_new]
  replace L := (L).alloc (opv ⟨A0_4, 0, c0_4, A1_4, n1_4, c1_4, A2_4, n2_4, c2_4, A3_4, n3_4, c3_4⟩ ⟨3, 0, 6, 0, false, 0, 0, 0, 0, 0, 0, false, 0, 0, 0, 0⟩) 42
  try simp only [World.size_alloc] at L
  try dsimp only [nput] at L
  generalize (w10).alloc (.cells (opv ⟨A0_4, 0, c0_4, A1_4, n1_4, c1_4, A2_4, n2_4, c2_4, A3_4, n3_4, c3_4⟩ ⟨3, 0, 6, 0, false, 0, 0, 0, 0, 0, 0, false, 0, 0, 0, 0⟩) 42) = w11 at L ⊢
  generalize w10.heap.size = gS at L ⊢
  go_wp2_with (refine wpList_load_row rfl 27 (.tmp 1) rfl gH rfl _ _ (0, 0) _ (L.bk_ 5 rfl) Try.underlying27 rfl cf_sz ?_)
  replace L := (L).alloc #[.int .u32 1, .int .u32 0] 22
  try simp only [World.size_alloc] at L
  try dsimp only [nput] at L
  generalize (w11).alloc (.cells #[.int .u32 1, .int .u32 0] 22) = w12 at L ⊢
  generalize w11.heap.size = gY59 at L ⊢
  refine (aw5 (L.ints_ (k := .u32) (lo := 0) 0 [1, 0] rfl rfl (by decide) (Nat.zero_le _)) (show Lists 0 _ _ ⟨[1, 0], [], [], []⟩ from ⟨(L.ints_ (k := .u32) (lo := 0) 0 [1, 0] rfl rfl (show 2 ≤ 65536 by decide) (Nat.zero_le _)), IS.none_ _ _ _, IS.none_ _ _ _, IS.none_ _ _ _⟩) (L.us_ 20 rfl)).mono ?_
  rintro e w13 ⟨A0_5, c0_5, A1_5, n1_5, c1_5, A2_5, n2_5, c2_5, A3_5, n3_5, c3_5, B_5, d_5, rfl, U, L', hA, K'⟩
  have Lb := L.lts
  replace L := L.over K'
  replace L := L.us_av (fun i b e => hA b.1 (Lb i b e) (L.ap_ 20 rfl (by decide) i b e)) U
  replace L := L.lists Lb L'
  clear Lb
  try dsimp only [lF, List.cons_append, List.nil_append] at L
  clear L' U hA
  go_upto_region 9 with (refine wpList_store_row rfl 42 (.tmp 17) (.tmp 64) rfl _ _ rfl (show _ = Value.agg (opv ⟨A0_5, 2, c0_5, A1_5, n1_5, c1_5, A2_5, n2_5, c2_5, A3_5, n3_5, c3_5⟩ ⟨4, 0, 0, 0, false, 8, 0, 0, 0, 0, 0, false, 0, 0, 1, 0⟩) from rfl) _ _ (Bk.new _ _ _) op_sz rfl (opv_one _ _) ?_)
  try rw [World.setRow_alloc_new]
  replace L := (L).alloc (opv ⟨A0_5, 2, c0_5, A1_5, n1_5, c1_5, A2_5, n2_5, c2_5, A3_5, n3_5, c3_5⟩ ⟨4, 0, 0, 0, false, 8, 0, 0, 0, 0, 0, false, 0, 0, 1, 0⟩) 42
  try simp only [World.size_alloc] at L
  try dsimp only [nput] at L
  generalize (w13).alloc (.cells (opv ⟨A0_5, 2, c0_5, A1_5, n1_5, c1_5, A2_5, n2_5, c2_5, A3_5, n3_5, c3_5⟩ ⟨4, 0, 0, 0, false, 8, 0, 0, 0, 0, 0, false, 0, 0, 1, 0⟩) 42) = w14 at L ⊢
  generalize w13.heap.size = gT at L ⊢
  have P_8 := L.at_ 5 8 rfl (v := .int .i64 9) rfl
  have Q_8 := L.at_ 4 8 rfl (v := .int .i64 0) rfl
  have Q_3 := L.at_ 4 3 rfl (v := .int .i64 0) rfl
  have P_z := L.lt 5 rfl
  have Q_z := L.lt 4 rfl
  go_wp2_with fail
  clear P_8 Q_8 Q_3 P_z Q_z
  replace L := (L).alloc #[.int .u64 8589934588, .int .u64 0, .int .u64 0] 40
  try simp only [World.size_alloc] at L
  try dsimp only [nput] at L
  generalize (w14).alloc (.cells #[.int .u64 8589934588, .int .u64 0, .int .u64 0] 40) = w15 at L ⊢
  generalize w14.heap.size = gY89 at L ⊢
  replace L := L.cells_ (n := 3) 0 [8589934588, 0, 0] rfl (by decide +kernel) rfl (by decide)
  try dsimp only [ndel] at L
  refine (same_any (L.us_ 20 rfl) (L.us_ 0 rfl) (by decide)).mono ?_
  rintro e w16 ⟨rfl, K'⟩
  replace L := L.over K'
  have R_8 := L.at_ 3 8 rfl (v := .int .i64 8) rfl
  have S_3 := L.at_ 2 3 rfl (v := .int .i64 6) rfl
  have T_18 := L.at_ 0 18 rfl (v := .int .i64 1) rfl
  have T_12 := L.at_ 0 12 rfl (v := .int .i64 0) rfl
  have T_7 := L.at_ 0 7 rfl (v := .slice A2_5 n2_5 c2_5) rfl
  have R_z := L.lt 3 rfl
  have S_z := L.lt 2 rfl
  have T_z := L.lt 0 rfl
  go_wp2_with fail
  clear R_8 S_3 T_18 T_12 T_7 R_z S_z T_z
  replace L := (L).alloc #[.int .i64 6] 36
  try simp only [World.size_alloc] at L
  try dsimp only [nput] at L
  generalize (w16).alloc (.cells #[.int .i64 6] 36) = w17 at L ⊢
  generalize w16.heap.size = gY127 at L ⊢
  have e1 := IS.len (L.is_ 3 rfl)
  obtain rfl : n2_5 = 1 := e1.symm
  clear e1
  refine (errs_same (L.is_ 3 rfl) (L.ints_ (k := .i64) (lo := 0) 0 [6] rfl (IS.len (L.is_ 3 rfl)) (by have := IS.len (L.is_ 3 rfl); simp at this; omega) (Nat.zero_le _)) (by have := IS.len (L.is_ 3 rfl); simp at this; omega)).mono ?_
  rintro e w18 ⟨rfl, K'⟩
  replace L := L.over K'
  go_wp2_with fail
  refine (same_any (L.us_ 5 rfl) (L.us_ 26 rfl) (by decide)).mono ?_
  rintro e w19 ⟨rfl, K'⟩
  replace L := L.over K'
  go_wp2
  go_ret
  exact ⟨rfl, L.K⟩
end Go.Proofs.Ytafdlofmgefdoaa
