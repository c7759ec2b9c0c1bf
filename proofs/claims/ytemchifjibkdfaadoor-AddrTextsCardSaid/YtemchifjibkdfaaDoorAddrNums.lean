/-
  What the document's own reading of numbers answers: a list of numbers, in new memory. Conditions: texts of at most 1000 bytes.
-/
import Derived.Test.YtemchifjibkdfaaDoorAddrRefs
namespace Go.Proofs.YtemchifjibkdfaaDoor
open Go.RowKit
theorem int_info : (Tryd.prog.info? 3).map (fun i => (i.zero, i.size, i.bytes)) = some (some (Value.int .i64 0), 1, 8) := by kernel_rfl
def zi (l : List Nat) : List Int := l.map Int.ofNat
theorem zi_len (l : List Nat) : (zi l).length = l.length := by simp [zi]
theorem own_set {w : World} {B g n c : Nat} {e : TypeId} {xs : List Value} (h : w.ownsRow B e 1 (.slice (some ⟨g, 0, none⟩) n c) n xs) {j : Nat} (_hj : j < n) (u : Value) :
    (w.setCell ⟨g, j, none⟩ u).ownsRow B e 1 (.slice (some ⟨g, 0, none⟩) n c) n (xs.set j u) := by
  obtain ⟨h1, h2⟩ := h
  refine ⟨by rw [List.length_set]; exact h1, ?_⟩
  rcases h2 with ⟨hv, _⟩ | ⟨g', cap, cur, hv, hb, hh, hle, hm, hs, ht⟩
  · cases hv
  · injection hv with hv1 hv2 hv3
    injection hv1 with hv1
    injection hv1 with hv1
    subst hv1 hv3
    refine .inr ⟨g, c, cur.setIfInBounds j u, rfl, hb, ?_, hle, hm, by simpa using hs, ?_⟩
    · simp [World.setCell, Array.getElem?_modify, hh]
    · rw [← ht, Array.toList_setIfInBounds, List.take_set]
theorem set_last (pre : List Nat) (cur x : Nat) : ((zi (pre ++ [cur])).map (iv .i64)).set pre.length (.int .i64 x) = (zi (pre ++ [x])).map (iv .i64) := by
  unfold zi
  simp only [List.map_append, List.map_cons, List.map_nil]
  rw [List.set_append_right _ _ (by simp)]
  simp [iv]
/-- The row of numbers at a round's head. -/
def NR (w : World) (B g c : Nat) (pre : List Nat) (cur : Nat) : Prop := w.ownsRow B 3 1 (.slice (some ⟨g, 0, none⟩) (pre.length + 1) c) (pre.length + 1) ((zi (pre ++ [cur])).map (iv .i64))
theorem NR.cell {w : World} {B g c : Nat} {pre : List Nat} {cur : Nat} (h : NR w B g c pre cur) : w.cell? ⟨g, pre.length, none⟩ = some (.int .i64 (cur : Nat)) := by
  rw [World.ownsRow.cellAt h pre.length (by omega)]
  simp [zi, iv]
theorem NR.fz {w : World} {B g c : Nat} {pre : List Nat} {cur : Nat} (h : NR w B g c pre cur) (j : Nat) : w.frozen? ⟨g, j, none⟩ = false := by
  rcases h.2 with ⟨hv, _⟩ | ⟨g', cap, cs, hv, _, hh, _⟩
  · cases hv
  · injection hv with hv1
    injection hv1 with hv1
    injection hv1 with hv1
    subst hv1
    simp [World.frozen?, hh]
theorem NR.ge {w : World} {B g c : Nat} {pre : List Nat} {cur : Nat} (h : NR w B g c pre cur) : B ≤ g := own_ge h g rfl
theorem NR.set {w : World} {B g c : Nat} {pre : List Nat} {cur : Nat} (h : NR w B g c pre cur) (x : Nat) : NR (w.setCell ⟨g, pre.length, none⟩ (.int .i64 x)) B g c pre x := by
  have := own_set h (j := pre.length) (by omega) (.int .i64 x)
  rw [set_last] at this
  exact this
theorem NR.new (w : World) : NR (w.alloc (.cells #[.int .i64 0] 3)) w.heap.size w.heap.size 1 [] 0 :=
  World.ownsRow_lit (e := 3) (size := 1) w #[.int .i64 0] 1 (Nat.le_refl _) (by unfold maxLen; omega) rfl
theorem NR.more {w : World} {B g c : Nat} {pre : List Nat} {cur : Nat} (h : NR w B g c pre cur) (hB : B ≤ w.heap.size) (hl : pre.length ≤ 1000) (ty : TypeId) :
    ∃ g' c' w', (Builtin.append_ #[54, 54] ty #[.slice (some ⟨g, 0, none⟩) (pre.length + 1) c, .slice (some ⟨w.heap.size, 0, none⟩) 1 1]).run Tryd.prog (w.alloc (.cells #[.int .i64 0] 3)) = .ok (.slice (some ⟨g', 0, none⟩) (pre.length + 2) c') w' ∧ NR w' B g' c' (pre ++ [cur]) 0 ∧ Below B w w' := by
  obtain ⟨i0, hi, hz0, hz1, hz2⟩ := info_parts int_info
  have L := below_alloc w (.cells #[.int .i64 0] 3)
  have O1 := own_below h L
  obtain ⟨A', c', w', hr, O2, G2, _⟩ := run_append_onto (P := Tryd.prog) (k := .i64) (xs := [0]) Tryd.underlying54 hi hz0 hz1 hz2 O1 (gone (k := .i64) (cell_new w (.int .i64 0) 3) (by unfold maxLen; omega)) (by omega) (by have := L.size; omega) ty
  rcases O2.2 with ⟨hv, h0⟩ | ⟨g', cap, cs, hv, _⟩
  · omega
  · injection hv with hv1 _ hv3
    subst hv1 hv3
    refine ⟨g', c', w', hr, ?_, (L.mono hB).grown G2 (by have := L.size; omega) (own_ge h)⟩
    have e : zi (pre ++ [cur]) ++ [0] = zi (pre ++ [cur] ++ [0]) := by simp [zi]
    rw [e] at O2
    unfold NR
    rw [List.length_append]
    exact O2
theorem numsF_cons (cur : Nat) (q : UInt8) (r : List UInt8) : numsF cur (q :: r) = if isD q then numsF (min (10 * cur + (q.toNat - 48)) 100000) r else cur :: numsF 0 r := rfl
set_option maxRecDepth 100000 in
set_option maxHeartbeats 1000000 in
theorem nums_any (l : List UInt8) (hl : l.length ≤ 1000) (w : World) :
    Calls Tryd.prog 24 #[S l] w fun e w' => ∃ A c, e = .returned (.slice A (numsF 0 l).length c) ∧ IS .i64 w.heap.size w' A (numsF 0 l).length c (zi (numsF 0 l)) ∧ Below w.heap.size w w' := by
  go_enter Tryd.func24, Tryd.ntmps24
  go_wp2
  go_loopw [3, 4] (fun s3 s4 wr => ∃ (k g c m cur : Nat) (pre : List Nat), k ≤ l.length ∧ m ≤ k ∧ cur ≤ 100000 ∧ s3 = .slice (some ⟨g, 0, none⟩) (m + 1) c ∧ s4 = .int .i64 k ∧ Hid (m = pre.length) ∧ Hid (numsF 0 l = pre ++ numsF cur (l.drop k)) ∧ Hid (NR wr w.heap.size g c pre cur) ∧ Below w.heap.size w wr) (fun _ s4 _ => l.length - (intOf s4).toNat)
  case atStart => exact ⟨0, _, 1, 0, 0, [], Nat.zero_le _, Nat.le_refl _, by omega, rfl, rfl, rfl, rfl, NR.new w, below_alloc w _⟩
  case round =>
    obtain ⟨k, g, c, m, cur, pre, hk, hmk, hcur, rfl, rfl, Hm, HV, HN, Kr⟩ := hrel
    by_cases hlt : k < l.length
    · have HE : Hid (l.drop k = l[k] :: l.drop (k + 1)) := List.drop_eq_getElem_cons hlt
      obtain ⟨q, hq⟩ : ∃ q, q = l[k] := ⟨_, rfl⟩
      rw [← hq] at HE
      have zq : ∀ h, ((⟨l.toArray⟩ : ByteArray)[k]'h).toNat = q.toNat := fun _ => by rw [hq]; rfl
      clear hq
      by_cases hD : isD q
      · have HV2 : Hid (numsF 0 l = pre ++ numsF (min (10 * cur + (q.toNat - 48)) 100000) (l.drop (k + 1))) := by
          have := HV.out
          rw [HE.out, numsF_cons, if_pos hD] at this
          exact this
        unfold isD at hD
        obtain ⟨d, hd, hd9⟩ : ∃ d : Nat, q.toNat = 48 + d ∧ d < 10 := ⟨q.toNat - 48, by omega, by omega⟩
        rw [hd] at zq HV2
        rw [Nat.add_sub_cancel_left] at HV2
        have hc := HN.out.cell
        have hf := HN.out.fz m
        rw [← Hm.out] at hc
        have e8 : decide ((48 : Int) ≤ 48 + (d : Int)) = true := decide_eq_true (by omega)
        have e7 : decide (48 + (d : Int) ≤ 57) = true := decide_eq_true (by omega)
        have x1 : IntKind.i64.wrap ((m : Int) + 1 - 1) = (m : Int) := by rw [IntWalk.i64_in _ (by omega)]; omega
        have x2 : IntKind.i64.wrap (10 * (cur : Int)) = 10 * (cur : Int) := IntWalk.i64_in _ (by omega)
        have x3 : IntKind.i64.wrap (10 * (cur : Int) + (48 + (d : Int))) = 10 * (cur : Int) + (48 + (d : Int)) := IntWalk.i64_in _ (by omega)
        have x4 : IntKind.i64.wrap (10 * (cur : Int) + (48 + (d : Int)) - 48) = 10 * (cur : Int) + (d : Int) := by rw [IntWalk.i64_in _ (by omega)]; omega
        clear hD hd
        have y1 : (0 : Int) ≤ (m : Int) := by omega
        have y2 : (m : Int) < (m : Int) + 1 := by omega
        have y3 : (0 : Int) ≤ (k : Int) := by omega
        have y4 : (k : Int) < (l.length : Int) := by omega
        go_wp2_with fail
        go_quiet (fail)
        go_wp2
        have ev : min (10 * (cur : Int) + (d : Int)) 100000 = ((min (10 * cur + d) 100000 : Nat) : Int) := by omega
        have HN' : NR (wr.drewN nq) w.heap.size g c pre cur := HN.out
        go_roundw
        case rel => exact ⟨k + 1, g, c, m, min (10 * cur + d) 100000, pre, by omega, by omega, by omega, rfl, by go_num, Hm, HV2, by rw [ev, Hm.out]; exact HN'.set _, (below_drewN Kr nq).setCell HN.out.ge _⟩
        case measure => simp [intOf]; omega
      · have HV2 : Hid (numsF 0 l = (pre ++ [cur]) ++ numsF 0 (l.drop (k + 1))) := by
          have := HV.out
          rw [HE.out, numsF_cons, if_neg hD] at this
          rw [List.append_assoc]
          exact this
        unfold isD at hD
        obtain ⟨g', c', w', hr, N', K'⟩ := HN.out.more (by have := Kr.size; omega) (by have := Hm.out; omega) 54
        rw [← Hm.out] at hr
        by_cases h48 : 48 ≤ q.toNat
        · have e8 : decide ((48 : Int) ≤ (q.toNat : Int)) = true := decide_eq_true (by omega)
          have e7 : decide ((q.toNat : Int) ≤ 57) = false := decide_eq_false (by omega)
          clear hD h48
          go_wp2_with (at_builtin; refine wpList_append_run rfl (.tmp 43) (.tmp 44) 54 rfl _ _ _ _ rfl rfl hr ?_)
          go_roundw
          case rel => exact ⟨k + 1, g', c', m + 1, 0, pre ++ [cur], by omega, by omega, by omega, rfl, by go_num, by rw [Hm.out, List.length_append]; rfl, HV2, N', Below.trans Kr K'⟩
          case measure => simp [intOf]; omega
        · have e8 : decide ((48 : Int) ≤ (q.toNat : Int)) = false := decide_eq_false (by omega)
          clear hD h48
          go_wp2_with (at_builtin; refine wpList_append_run rfl (.tmp 43) (.tmp 44) 54 rfl _ _ _ _ rfl rfl hr ?_)
          go_roundw
          case rel => exact ⟨k + 1, g', c', m + 1, 0, pre ++ [cur], by omega, by omega, by omega, rfl, by go_num, by rw [Hm.out, List.length_append]; rfl, HV2, N', Below.trans Kr K'⟩
          case measure => simp [intOf]; omega
    · obtain rfl : k = l.length := by omega
      have HF : numsF 0 l = pre ++ [cur] := by
        have := HV.out
        rw [List.drop_length] at this
        exact this
      have hlen : (numsF 0 l).length = m + 1 := by rw [HF, Hm.out]; simp
      have O : wr.ownsRow w.heap.size 3 1 (.slice (some ⟨g, 0, none⟩) (m + 1) c) (m + 1) ((zi (numsF 0 l)).map (iv .i64)) := by
        rw [HF, Hm.out]
        exact HN.out
      obtain ⟨A, c', e, I⟩ := IS.of_own O
      injection e with e1 _ e2
      subst e1 e2
      have HI := Lib.hid I
      have HL := Lib.hid hlen
      clear O I HF hlen
      go_wp2
      go_ret
      refine ⟨some ⟨g, 0, none⟩, c, ?_, ?_, Kr⟩
      · rw [HL.out]; rfl
      · rw [HL.out]; exact HI.out
end Go.Proofs.YtemchifjibkdfaaDoor
