/-
  What a request asks for: kinds, sizes, lists held against one another, names; nothing that was there is otherwise. The table of kinds is as the row lists it.
-/
import Derived.Test.YtmakbmmnjbnfiaaDoorAskMath
import Derived.BigQuiet
namespace Go.Proofs.YtmakbmmnjbnfiaaDoor
open Go.RowKit
def nt : Array Value := #[.bool false, .bool false, .bool true, .bool true, .bool false, .bool true, .bool false, .bool false]
/-- The table of the kinds that name one address. -/
def Laid (w : World) : Prop := 0 < w.heap.size ∧ ∀ i, i < 8 → w.cell? ⟨0, i, none⟩ = some (nt.getD i (.bool false))
theorem Laid.below {w w' : World} (h : Laid w) (K : Below w.heap.size w w') : Laid w' := ⟨Nat.lt_of_lt_of_le h.1 K.size, fun i hi => (K.cell (p := ⟨0, i, none⟩) h.1).trans (h.2 i hi)⟩
theorem Laid.under {w w' : World} {B : Nat} (h : Laid w) (K : Below B w w') (hB : 0 < B) : Laid w' := ⟨Nat.lt_of_lt_of_le h.1 K.size, fun i hi => (K.cell (p := ⟨0, i, none⟩) hB).trans (h.2 i hi)⟩
def RetW (P : Prop) (w : World) (e : Ending) (w' : World) : Prop := ∃ b, e = .returned (.bool b) ∧ (b = true → P) ∧ Below w.heap.size w w'
theorem RetBo.no {P : Prop} {w w' : World} {e : Ending} (h : RetBo false w e w') : RetW P w e w' := ⟨false, h.1, (fun e => by cases e), h.2⟩
theorem RetBo.yes {P : Prop} {w w' : World} {e : Ending} (h : RetBo true w e w') (hp : P) : RetW P w e w' := ⟨true, h.1, fun _ => hp, h.2⟩
/-- What is known of a configuration that may be. -/
structure Cf (a : Nat) (p : Int) (n : Nat) (zs : List Int) (M : Nat) : Prop where
  much : Much a p M
  few : n ≤ 64
  ris : risB M 0 zs = true
section
variable {w : World} {lo a m d : Nat} {p sh wo qu tr : Int} {A B : Option Addr} {n c : Nat} {zs : List Int}
theorem Cf.of (h : confB a p n zs sh wo qu tr = true) : ∃ M, Cf a p n zs M := by
  obtain ⟨h1, h2, h3, _⟩ := confB_no h
  refine ⟨2 ^ (32 - p.toNat), Much.of h1, h2, ?_⟩
  rw [← (Much.of h1).manyI]
  exact h3
/-- What the document's May of a configuration tells. -/
theorem rmay5_any (ha : a < 4294967296) (h0 : IS .i64 lo w A n c zs) :
    Calls Tryd.prog 29 #[.agg #[.int .u32 a, .int .i64 p, .slice A n c, .int .i64 sh, .int .i64 wo, .int .i64 qu, .int .i64 tr]] w (RetW (∃ M, Cf a p n zs M) w) := by
  cases hb : confB a p n zs sh wo qu tr with
  | false => exact (rmay_is ha h0 hb).mono fun _ _ h => RetBo.no h
  | true => exact (rmay_is ha h0 hb).mono fun _ _ h => RetBo.yes h (Cf.of hb)
end
theorem IS.lit {k : IntKind} {w : World} {g : Nat} {t : TypeId} (xs : List Int) {n : Nat} (h : Bk w g t (xs.map (iv k)).toArray) (hn : xs.length = n) (hm : n ≤ 65536) : IS k 0 w (some ⟨g, 0, none⟩) n n xs :=
  ⟨hn, Nat.le_refl _, by unfold maxLen; omega, (fun e => by cases e), fun _ => ⟨g, 0, rfl, Nat.zero_le _, h.lt, fun j hj => by
    rw [Nat.zero_add, h.at_ j (v := .int k (gi xs j)) (by simp [gi_at (xs := xs) (j := j) (by omega), iv, show j < xs.length by omega])]⟩⟩
theorem IS.here_ {k : IntKind} {lo : Nat} {w : World} {b o n c : Nat} {xs : List Int} (h : IS k lo w (some ⟨b, o, none⟩) n c xs) {j : Nat} (hj : j < n) : w.cell? ⟨b, o + j, none⟩ = some (.int k (gi xs j)) := by
  obtain ⟨b', o', e, _, hc⟩ := h.get hj
  simp only [Option.some.injEq, Addr.mk.injEq, and_true] at e
  obtain ⟨rfl, rfl⟩ := e
  exact hc
theorem ak_sz {c0 c1 c2 : Value} : (Tryd.prog.info? 30).map (·.size) = some (#[c0, c1, c2] : Array Value).size := by kernel_rfl
/-- Numbers of 32 bits. -/
def W32 (ys : List Int) : Prop := ∀ y ∈ ys, 0 ≤ y ∧ y < 4294967296
theorem W32.at_ {ys : List Int} (h : W32 ys) {k : Nat} (hk : k < ys.length) : ∃ y : Nat, gi ys k = y ∧ y < 4294967296 := by
  have := h _ (gi_mem hk)
  exact ⟨(gi ys k).toNat, by omega, by omega⟩
theorem known_any (k : Int) (w : World) :
    Calls Tryd.prog 45 #[.int .i64 k] w fun e w' => e = .returned (.bool (decide (1 ≤ k ∧ k ≤ 7))) ∧ w' = w := by
  by_cases h1 : 1 ≤ k
  · by_cases h2 : k ≤ 7
    · go_enter Tryd.func45, Tryd.ntmps45
      go_wp2
      go_ret
      exact ⟨ret_bool (by simp [h1, h2]), rfl⟩
    · go_enter Tryd.func45, Tryd.ntmps45
      go_wp2
      go_ret
      exact ⟨ret_bool (by simp [h2]), rfl⟩
  · go_enter Tryd.func45, Tryd.ntmps45
    go_wp2
    go_ret
    exact ⟨ret_bool (by simp; omega), rfl⟩
def szE (n : Int) : Int := if n = 0 then 7 else if 64 < n then 1 else 0
theorem sized_any (n : Int) (w : World) :
    Calls Tryd.prog 46 #[.int .i64 n] w fun e w' => e = .returned (.int .i64 (szE n)) ∧ w' = w := by
  by_cases h1 : n = 0
  · subst h1
    go_enter Tryd.func46, Tryd.ntmps46
    go_wp2
    go_ret
    exact ⟨rfl, rfl⟩
  · have e1 : (n == 0) = false := by simp [h1]
    by_cases h2 : 64 < n
    · go_enter Tryd.func46, Tryd.ntmps46
      go_wp2
      go_ret
      exact ⟨ret_int (by unfold szE; rw [if_neg h1, if_pos h2]), rfl⟩
    · go_enter Tryd.func46, Tryd.ntmps46
      go_wp2
      go_ret
      exact ⟨ret_int (by unfold szE; rw [if_neg h1, if_neg (by omega)]), rfl⟩
section
variable {w : World} {lo lo' : Nat} {A A' : Option Addr} {n n' c c' : Nat} {xs xs' : List Int}
theorem ext_dec {k : Nat} (h : IS .u32 lo w A n c xs) (h' : IS .u32 lo' w A' n c' xs') (hk : n ≤ k) (e : ∀ j, j < k → gi xs j = gi xs' j) : xs = xs' :=
  ext_gi (h.len.trans h'.len.symm) (fun j hj => e j (by have := h.len; omega))
/-- Two lists of addresses are held against one another. -/
theorem equal_any (h : IS .u32 lo w A n c xs) (h' : IS .u32 lo' w A' n' c' xs') (hn : n ≤ 65536) (hn' : n' ≤ 65536) :
    Calls Tryd.prog 40 #[.slice A n c, .slice A' n' c'] w (RetBo (decide (xs = xs')) w) := by
  have hl := h.len
  have hl' := h'.len
  by_cases hnn : n = n'
  · subst hnn
    have e0 : ((n : Int) != (n : Int)) = false := by simp
    have hl2 := Lib.hid hl'
    clear hl'
    go_enter Tryd.func40, Tryd.ntmps40
    go_wp2
    go_loopw [13] (fun i wr => ∃ k : Nat, k ≤ n ∧ i = .int .i64 k ∧ Below w.heap.size w wr ∧ Hid (∀ j, j < k → gi xs j = gi xs' j)) (fun i _ => n - (intOf i).toNat)
    case atStart => exact ⟨0, Nat.zero_le _, rfl, Below.refl _ _, Lib.hid (fun j hj => absurd hj (by omega))⟩
    case round =>
      obtain ⟨k, hk, rfl, Kr, he⟩ := hrel
      by_cases hlt : k < n
      · obtain ⟨b, o, rfl, _, hc⟩ := (h.below Kr).get hlt
        obtain ⟨b', o', rfl, _, hc'⟩ := (h'.below Kr).get hlt
        by_cases hx : gi xs k = gi xs' k
        · have e1 : (gi xs k != gi xs' k) = false := by simp [hx]
          have hx := Lib.hid hx
          go_wp2
          go_quiet (fail)
          go_wp2
          go_roundw
          case rel =>
            refine ⟨k + 1, by omega, by go_num, below_drewN Kr _, Lib.hid (fun j hj => ?_)⟩
            rcases Nat.lt_or_ge j k with g | g
            · exact he.out j g
            · obtain rfl : j = k := by omega
              exact hx.out
          case measure => simp [intOf]; omega
        · have e1 : (gi xs k != gi xs' k) = true := by simp [hx]
          have hx := Lib.hid hx
          go_wp2
          go_quiet (fail)
          go_wp2
          go_ret
          exact ⟨ret_bool (by simp; intro e; exact hx.out (by rw [e])), below_drewN Kr _⟩
      · go_wp2
        go_ret
        exact ⟨ret_bool (by simp; exact ext_dec h h' (by omega) he.out), Kr⟩
  · have e0 : ((n : Int) != (n' : Int)) = true := by simp; omega
    have hx : ¬ xs = xs' := by intro e; rw [e] at hl; omega
    clear hl hl'
    have hx := Lib.hid hx
    go_enter Tryd.func40, Tryd.ntmps40
    go_wp2
    go_ret
    exact ⟨ret_bool (by simp [hx.out]), Below.refl _ _⟩
theorem raddrs_any (h : IS .u32 lo w A n c xs) (h' : IS .u32 lo' w A' n' c' xs') (hn : n ≤ 65536) (hn' : n' ≤ 65536) :
    Calls Tryd.prog 39 #[.slice A n c, .slice A' n' c'] w (RetBo (decide (xs = xs')) w) := by
  have hl := h.len
  have hl' := h'.len
  by_cases hnn : n = n'
  · subst hnn
    have e0 : ((n : Int) != (n : Int)) = false := by simp
    have hl2 := Lib.hid hl'
    clear hl'
    go_enter Tryd.func39, Tryd.ntmps39
    go_wp2
    go_loopw [5] (fun i wr => ∃ k : Nat, k ≤ n ∧ i = .int .i64 k ∧ Below w.heap.size w wr ∧ Hid (∀ j, j < k → gi xs j = gi xs' j)) (fun i _ => n - (intOf i).toNat)
    case atStart => exact ⟨0, Nat.zero_le _, rfl, Below.refl _ _, Lib.hid (fun j hj => absurd hj (by omega))⟩
    case round =>
      obtain ⟨k, hk, rfl, Kr, he⟩ := hrel
      by_cases hlt : k < n
      · obtain ⟨b, o, rfl, _, hc⟩ := (h.below Kr).get hlt
        obtain ⟨b', o', rfl, _, hc'⟩ := (h'.below Kr).get hlt
        by_cases hx : gi xs k = gi xs' k
        · have e1 : (gi xs k != gi xs' k) = false := by simp [hx]
          have hx := Lib.hid hx
          go_wp2
          go_quiet (fail)
          go_wp2
          go_roundw
          case rel =>
            refine ⟨k + 1, by omega, by go_num, below_drewN Kr _, Lib.hid (fun j hj => ?_)⟩
            rcases Nat.lt_or_ge j k with g | g
            · exact he.out j g
            · obtain rfl : j = k := by omega
              exact hx.out
          case measure => simp [intOf]; omega
        · have e1 : (gi xs k != gi xs' k) = true := by simp [hx]
          have hx := Lib.hid hx
          go_wp2
          go_quiet (fail)
          go_wp2
          go_ret
          exact ⟨ret_bool (by simp; intro e; exact hx.out (by rw [e])), below_drewN Kr _⟩
      · go_wp2
        go_ret
        exact ⟨ret_bool (by simp; exact ext_dec h h' (by omega) he.out), Kr⟩
  · have e0 : ((n : Int) != (n' : Int)) = true := by simp; omega
    have hx : ¬ xs = xs' := by intro e; rw [e] at hl; omega
    clear hl hl'
    have hx := Lib.hid hx
    go_enter Tryd.func39, Tryd.ntmps39
    go_wp2
    go_ret
    exact ⟨ret_bool (by simp [hx.out]), Below.refl _ _⟩
end
end Go.Proofs.YtmakbmmnjbnfiaaDoor

