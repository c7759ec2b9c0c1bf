/-
  What Addrs of package model, and the document's, answer of a set that may be: its addresses; the program's lie in new memory; nothing that was there is otherwise. Conditions: offsets from 0 to 65536.
-/
import Derived.Test.YtmakbmmnjbnfiaaDoorModelMay
namespace Go.Proofs.YtmakbmmnjbnfiaaDoor
open Go.RowKit
/-- The block g is just these numbers. -/
def Bi (k : IntKind) (w : World) (g : Nat) (t : TypeId) (xs : List Int) : Prop := Bk w g t (xs.map (iv k)).toArray
section
variable {k : IntKind} {w w' : World} {g : Nat} {t : TypeId} {xs : List Int}
theorem Bi.cell (h : Bi k w g t xs) {i : Nat} (hi : i < xs.length) : w.cell? ⟨g, i, none⟩ = some (.int k (gi xs i)) := by
  refine Bk.at_ h i ?_
  rw [gi_at hi]
  simp [iv, hi]
theorem Bi.below (h : Bi k w g t xs) (K : Below w.heap.size w w') : Bi k w' g t xs := Bk.below h K
theorem Bi.set_ (h : Bi k w g t xs) (i : Nat) (v : Int) : Bi k (w.setCell ⟨g, i, none⟩ (.int k v)) g t (xs.set i v) := by
  have := Bk.set_ h i (.int k v)
  unfold Bi
  rw [List.map_set]
  simpa [iv] using this
theorem Bi.is {n : Nat} (h : Bi k w g t xs) (hn : xs.length = n) (hm : n ≤ 65536) : IS k 0 w (some ⟨g, 0, none⟩) n n xs :=
  ⟨hn, Nat.le_refl _, by unfold maxLen; omega, (fun e => by cases e), fun _ => ⟨g, 0, rfl, Nat.zero_le _, Bk.lt h, fun j hj => by rw [Nat.zero_add]; exact h.cell (by omega)⟩⟩
theorem Bi.of_made {base n : Nat} (h : w.ownsRow base t 1 (.slice (some ⟨g, 0, none⟩) n n) n (madeCells (Value.int k 0).cells (n * 1)).toList) : Bi k w g t (List.replicate n 0) := by
  rcases h.2 with ⟨hv, _⟩ | ⟨g', cap, cur, hv, hb, hh, hnc, hcm, hcs, ht⟩
  · cases hv
  · injection hv with h1 h2 h3
    injection h1 with h1
    injection h1 with h1
    subst h1; subst h3
    unfold Bi Bk
    rw [hh]
    have e : cur.toList = (madeCells (Value.int k 0).cells (n * 1)).toList := by
      rw [← ht, List.take_of_length_le (by simp; omega)]
    have e2 : (madeCells (Value.int k 0).cells (n * 1)).toList = (List.replicate n 0).map (iv k) := by
      simp only [madeCells, Value.cells, iv, Nat.mul_one, Array.toList_map, Array.toList_range, List.map_replicate]
      apply List.ext_getElem (by simp)
      intro i h1 h2
      have e1 : i % 1 = 0 := by omega
      simp [e1]
    have e3 : cur = ((List.replicate n 0).map (iv k)).toArray := by rw [← e2, ← e]
    rw [e3]
end
/-- An offset's address. -/
def ad (a : Nat) (x : Int) : Int := ((a + x.toNat) % 4294967296 : Nat)
def ads (a : Nat) (xs : List Int) : List Int := xs.map (ad a)
/-- The row when k addresses are laid. -/
def adk (a : Nat) (xs : List Int) (m k : Nat) : List Int := ads a (xs.take k) ++ List.replicate (m - k) 0
theorem adk_len {a m k : Nat} {xs : List Int} (hl : xs.length = m) (hk : k ≤ m) : (adk a xs m k).length = m := by
  unfold adk ads
  simp
  omega
theorem adk_set {a m k : Nat} {xs : List Int} (hl : xs.length = m) (hk : k < m) : (adk a xs m k).set k (ad a (gi xs k)) = adk a xs m (k + 1) := by
  unfold adk ads
  rw [take_gi (by omega), List.map_append, List.set_append_right _ _ (by simp; omega)]
  have e : k - (List.map (ad a) (xs.take k)).length = 0 := by simp; omega
  rw [e, show m - k = (m - (k + 1)) + 1 by omega, List.replicate_succ]
  simp
theorem adk_end {a m : Nat} {xs : List Int} (hl : xs.length = m) : adk a xs m m = ads a xs := by
  unfold adk
  rw [List.take_of_length_le (by omega), Nat.sub_self]
  simp
theorem adk_start (a m : Nat) (xs : List Int) : adk a xs m 0 = List.replicate m 0 := by unfold adk ads; simp
theorem ads_len (a : Nat) (xs : List Int) : (ads a xs).length = xs.length := by unfold ads; simp
/-- A row in new memory is answered. -/
def RetN (k : IntKind) (t : TypeId) (n : Nat) (xs : List Int) (w : World) (e : Ending) (w' : World) : Prop := ∃ g, e = .returned (.slice (some ⟨g, 0, none⟩) n n) ∧ w.heap.size ≤ g ∧ Bi k w' g t xs ∧ Below w.heap.size w w'
section
variable {w : World} {lo a M : Nat} {p sh wo qu tr : Int} {A B : Option Addr} {n c m d : Nat} {xs : List Int}
set_option maxHeartbeats 1000000 in
theorem maddrs_any (hs : IS .i64 lo w B m d xs) (hm : m ≤ 65536) (hx : ∀ x ∈ xs, 0 ≤ x ∧ x ≤ 65536) :
    Calls Tryd.prog 63 #[.agg #[.int .u32 a, .int .i64 p, .slice A n c, .int .i64 sh, .int .i64 wo, .int .i64 qu, .int .i64 tr], .slice B m d] w (RetN .u32 22 m (ads a xs) w) := by
  have hl := hs.len
  replace hx := Lib.hid hx
  obtain ⟨i0, hi, hz0, hz1, hz2⟩ := info_parts u32_info
  have hb8 : i0.bytes * m ≤ 281474976710656 := by rw [hz2]; omega
  have K := below_alloc w (.cells #[.int .u32 a, .int .i64 p, .slice A n c, .int .i64 sh, .int .i64 wo, .int .i64 qu, .int .i64 tr] 27)
  have H := Bk.new w #[.int .u32 a, .int .i64 p, .slice A n c, .int .i64 sh, .int .i64 wo, .int .i64 qu, .int .i64 tr] 27
  replace hs := hs.below K
  have hb0 : w.heap.size ≤ (w.alloc (.cells #[.int .u32 a, .int .i64 p, .slice A n c, .int .i64 sh, .int .i64 wo, .int .i64 qu, .int .i64 tr] 27)).heap.size := K.size
  go_enter Tryd.func63, Tryd.ntmps63
  go_upto_region 1 with (fail)
  generalize w.alloc (.cells #[.int .u32 a, .int .i64 p, .slice A n c, .int .i64 sh, .int .i64 wo, .int .i64 qu, .int .i64 tr] 27) = w2 at H K hs hb0 ⊢
  obtain ⟨g0, hg0⟩ : ∃ x, x = w.heap.size := ⟨_, rfl⟩
  rw [← hg0] at H hb0 ⊢
  have hw : w.heap.size ≤ w2.heap.size := by omega
  clear hg0 hb0
  go_upto_region 2 with (at_make; refine wpList_make_full _ rfl (.tmp 9) (.tmp 9) _ rfl w2.heap.size 22 i0 _ 1 Tryd.underlying28 hi hz0 hz1 .i64 .i64 _ _ m rfl rfl rfl rfl hb8 (by unfold maxLen; omega) (Nat.le_refl _) ?_; intro w3 hown1 hg1; have B0 := Bi.of_made hown1; clear hown1)
  have K1 : Below w2.heap.size w2 w3 := (Below.refl _ _).grown hg1 (Nat.le_refl _) (by simp)
  clear hg1 hi hz0 hz1 hz2 hb8
  rw [← adk_start a m xs] at B0
  obtain ⟨g, hg⟩ : ∃ x, x = w2.heap.size := ⟨_, rfl⟩
  rw [← hg] at B0 ⊢
  have hge : w2.heap.size ≤ g := by omega
  clear hg
  go_wp2
  go_loopw [13] (fun i wr => ∃ k : Nat, k ≤ m ∧ i = .int .i64 k ∧ Hid (Bi .u32 wr g 22 (adk a xs m k)) ∧ Below w2.heap.size w2 wr) (fun i _ => m - (intOf i).toNat)
  case atStart => exact ⟨0, Nat.zero_le _, rfl, Lib.hid B0, K1⟩
  case round =>
    clear B0 K1
    obtain ⟨k, hk, rfl, HB, Kr⟩ := hrel
    by_cases hlt : k < m
    · have hxk := hx.out _ (gi_mem (xs := xs) (j := k) (by omega))
      obtain ⟨o, ho⟩ : ∃ o : Nat, gi xs k = (o : Int) := ⟨(gi xs k).toNat, by omega⟩
      have ho2 : o ≤ 65536 := by omega
      have hset := Lib.hid (adk_set (a := a) hl hlt)
      have hv := Lib.hid (show ad a (gi xs k) = (((a + o) % 4294967296 : Nat) : Int) by unfold ad; rw [ho]; rfl)
      obtain ⟨b, oo, rfl, _, hc⟩ := (hs.below Kr).get hlt
      rw [ho] at hc
      have H2 := H.below Kr
      have H_0 := H2.at_ (v := .int .u32 a) 0 rfl
      have H_1 := H2.at_ (v := .int .i64 p) 1 rfl
      have H_z := H2.lt
      clear ho hxk H2
      go_wp2_with fail
      refine (address_any o ho2).mono ?_
      rintro e w4 ⟨rfl, K'⟩
      clear H_0 H_1 H_z
      have B4 := HB.out.below K'
      have c1 := B4.cell (i := k) (by rw [adk_len hl (by omega)]; omega)
      have f1 := Bk.fz B4 k
      have B5 := B4.set_ k (ad a (gi xs k))
      rw [hset.out, hv.out] at B5
      replace B5 := Lib.hid B5
      have K5 := (Below.then_ Kr K').setCell (p := ⟨g, k, none⟩) hge (.int .u32 (((a + o) % 4294967296 : Nat) : Int))
      clear HB B4 K' hset hv hc
      generalize (((a + o) % 4294967296 : Nat)) = v at *
      go_wp2
      go_roundw
      case rel => exact ⟨k + 1, by omega, by go_num, B5, K5⟩
      case measure => simp [intOf]; omega
    · obtain rfl : k = m := by omega
      have B4 := HB.out
      rw [adk_end hl] at B4
      replace B4 := Lib.hid B4
      replace K := Below.then_ K Kr
      go_wp2
      go_ret
      exact ⟨g, rfl, by omega, B4.out, K⟩
end
end Go.Proofs.YtmakbmmnjbnfiaaDoor

