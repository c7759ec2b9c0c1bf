/-
  What the document's own digits answer, for numbers below 1000.
-/
import Derived.Test.YtemchifjibkdfaaDoorAddrParse
import Derived.Deep.RegionWith
import Derived.IntWalk
namespace Go.Proofs.YtemchifjibkdfaaDoor
open Go.RowKit
theorem conv_cell (X : Nat) (hX : X < 256) (W : World) (g : Nat) (h : W.cell? ⟨g, 0, none⟩ = some (.int .u8 (X : Nat))) : (convert 46 9 (.slice (some ⟨g, 0, none⟩) 1 1)).run Tryd.prog W = .ok (S [UInt8.ofNat X]) W := by
  refine run_convert_bytes_back (P := Tryd.prog) _ 46 9 5 ⟨g, 0, none⟩ 1 [UInt8.ofNat X] Tryd.underlying46 Tryd.underlying5 Tryd.underlying9 ?_
  intro j hj
  have : j = 0 := by simp at hj; exact hj
  subst this
  have e : ((UInt8.ofNat X).toNat : Int) = X := by rw [UInt8.toNat_ofNat']; omega
  rw [List.getElem_cons_zero, e]
  exact h
/-- The byte of a digit, and what its text is made of. -/
theorem digit (n : Nat) (hn : n < 10) : ∃ c : UInt8, Hid (c = UInt8.ofNat (48 + n)) ∧ (∀ (W : World) (g : Nat), W.cell? ⟨g, 0, none⟩ = some (.int .u8 (48 + (n : Int))) → (convert 46 9 (.slice (some ⟨g, 0, none⟩) 1 1)).run Tryd.prog W = .ok (S [c]) W) := by
  refine ⟨_, rfl, fun W g h => ?_⟩
  refine conv_cell (48 + n) (by omega) W g ?_
  rw [Int.natCast_add]
  exact h
theorem new_cell (v : World) (x : Value) (t : TypeId) : (v.alloc (.cells #[x] t)).cell? ⟨v.heap.size, 0, none⟩ = some x := cell_new v x t
set_option maxRecDepth 100000 in
theorem dec_one (n : Nat) (hn : n < 10) (w : World) :
    Calls Tryd.prog 21 #[.int .i64 n] w fun e w' => e = .returned (S (d3 n)) ∧ Below w.heap.size w w' := by
  obtain ⟨c, hc, cv0⟩ := digit n hn
  have hd : Hid (d3 n = [c]) := by rw [hc.out]; unfold d3; rw [if_pos hn]; rfl
  have cv := cv0 _ _ (new_cell w (.int .u8 (48 + (n : Int))) 5)
  have e1 : decide ((n : Int) < 10) = true := by simp; omega
  clear cv0 hc
  go_enter Tryd.func21, Tryd.ntmps21
  go_wp2
  go_ret
  exact ⟨by rw [hd.out]; rfl, below_alloc w _⟩
theorem d3_step {n q r : Nat} (hn : 10 ≤ n) (hn2 : n < 1000) (hq : q = n / 10) (hr : r = n % 10) : d3 n = d3 q ++ [UInt8.ofNat (48 + r)] := by
  subst hq hr
  rw [← dec_d3 (by omega), ← dec_d3 (by omega), Lib.decDigits, dif_neg (by omega)]
set_option maxRecDepth 100000 in
set_option maxHeartbeats 1000000 in
theorem dec_step (n q : Nat) (hn : 10 ≤ n) (hn2 : n < 1000) (hq : q = n / 10) (IH : ∀ w, Calls Tryd.prog 21 #[.int .i64 q] w fun e w' => e = .returned (S (d3 q)) ∧ Below w.heap.size w w') (w : World) :
    Calls Tryd.prog 21 #[.int .i64 n] w fun e w' => e = .returned (S (d3 n)) ∧ Below w.heap.size w w' := by
  obtain ⟨r, hr, hr10⟩ : ∃ r, r = n % 10 ∧ r < 10 := ⟨_, rfl, by omega⟩
  obtain ⟨c, hc, cv⟩ := digit r hr10
  have HD : Hid (d3 n = d3 q ++ [c]) := by rw [hc.out]; exact d3_step hn hn2 hq hr
  have e1 : decide ((n : Int) < 10) = false := by simp; omega
  have e2 : (n : Int) / 10 = (q : Int) := by omega
  have e2' : (n : Int).tdiv 10 = (q : Int) := by rw [Int.tdiv_eq_ediv_of_nonneg (by omega)]; omega
  have e3 : (n : Int) % 10 = (r : Int) := by omega
  have e3' : (n : Int).tmod 10 = (r : Int) := by rw [Int.tmod_eq_emod_of_nonneg (by omega)]; omega
  have e4 : IntKind.i64.wrap (48 + (r : Int)) = 48 + (r : Int) := IntWalk.i64_in _ (by omega)
  have e5 : IntKind.u8.wrap (48 + (r : Int)) = 48 + (r : Int) := IntWalk.u8_in _ (by omega)
  have e6 : IntKind.i64.wrap (q : Int) = (q : Int) := IntWalk.i64_in _ (by omega)
  have lq := d3_len q
  have n1 : ¬ 9223372036854775807 < (d3 q).length + 1 := by omega
  have n1' : ¬ 9223372036854775806 < (d3 q).length := by omega
  have E : (⟨(d3 q).toArray⟩ : ByteArray) ++ ⟨#[c]⟩ = ⟨(d3 q ++ [c]).toArray⟩ := by
    rw [show (#[c] : Array UInt8) = [c].toArray from rfl, ByteArray.mk_append_mk]
  obtain ⟨dn, hdn⟩ : ∃ dn, dn = d3 q ++ [c] := ⟨_, rfl⟩
  rw [← hdn] at E HD
  rw [HD.out]
  clear hq hr hc hdn HD
  have cvA : ∀ v : World, _ := fun v => cv _ _ (new_cell v (.int .u8 (48 + (r : Int))) 5)
  go_enter Tryd.func21, Tryd.ntmps21
  go_wp2_with fail
  go_region_with (go_at_call 21; refine (IH _).mono ?_; rintro e w' ⟨rfl, K'⟩; try (have cvK := cv w' w.heap.size ((K'.cell (by simp)).trans (new_cell w _ _))))
  · go_wp2
    go_ret
    exact ⟨rfl, Below.then_ (Below.then_ (Below.refl w.heap.size w).drew K') (below_alloc w' _)⟩
  · go_wp2
    go_ret
    exact ⟨rfl, Below.then_ (below_alloc w _).drew K'⟩
  · go_wp2
    go_ret
    exact ⟨rfl, Below.then_ (below_alloc w _).drew K'⟩
theorem dec_any (n : Nat) (hn : n < 1000) (w : World) :
    Calls Tryd.prog 21 #[.int .i64 n] w fun e w' => e = .returned (S (d3 n)) ∧ Below w.heap.size w w' := by
  by_cases h1 : n < 10
  · exact dec_one n h1 w
  · by_cases h2 : n < 100
    · exact dec_step n (n / 10) (by omega) hn rfl (dec_one _ (by omega)) w
    · exact dec_step n (n / 10) (by omega) hn rfl (dec_step _ _ (by omega) (by omega) rfl (dec_one _ (by omega))) w
end Go.Proofs.YtemchifjibkdfaaDoor
