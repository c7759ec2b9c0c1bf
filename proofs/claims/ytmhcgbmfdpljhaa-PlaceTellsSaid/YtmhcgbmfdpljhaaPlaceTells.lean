/-
  The walk of the statement PlaceTells: for every number of addresses and offset the law answers true; no conditions.
-/
import Derived.Test.YtmhcgbmfdpljhaaPlaceAwake
namespace Go.Proofs.Ytmhcgbmfdpljhaa.placeTells
open Go.RowKit
set_option maxHeartbeats 2000000 in
theorem walk (a0 : Int) (a1 : Int) (w0 : (Lit.int .u16 a0).wf = true) (w1 : (Lit.int .u16 a1).wf = true) (w : World) :
    Calls Try.prog 3 #[.int .u16 a0, .int .u16 a1] w fun e w' => e = .returned (.bool true) ∧ Grown w w' := by
  obtain ⟨X, rfl, hX⟩ := wf_u16 w0
  obtain ⟨Y, rfl, hY⟩ := wf_u16 w1
  clear w0 w1
  obtain ⟨n, hn, hn1, hn2⟩ : ∃ n : Nat, (X : Int) + 1 = n ∧ 1 ≤ n ∧ n ≤ 65536 := ⟨X + 1, by omega, by omega, by omega⟩
  obtain ⟨o, ho, ho2⟩ : ∃ o : Nat, (Y : Int) % n = o ∧ o < n := ⟨Y % n, by omega, Nat.mod_lt _ (by omega)⟩
  have ho3 : o ≤ 65536 := by omega
  obtain ⟨l, hl, hl2⟩ : ∃ l : Nat, (o : Int) / 32 = l ∧ o / 32 = l := ⟨o / 32, by omega, rfl⟩
  obtain ⟨r, hr, hr2⟩ : ∃ r : Nat, (o : Int) % 32 = r ∧ o % 32 = r := ⟨o % 32, by omega, rfl⟩
  have hl3 : l ≤ 65536 := by omega
  have hr3 : r ≤ 65536 := by omega
  have C0 := fun w => Lib.hid (leaf_any o ho3 w)
  rw [hl2, hr2] at C0
  have C1 := fun w => Lib.hid (top_any n l hn2 hl3 w)
  have C2 := fun w => Lib.hid (rtop_any n l hn2 hl3 w)
  have C3 := fun w => Lib.hid (rootof_any n l hn2 hl3 w)
  have C4 := fun w => Lib.hid (rroot_any n l hn2 hl3 w)
  have C5 := fun w => Lib.hid (leaves_any n hn2 w)
  have C6 := fun w => Lib.hid (rleaves_any n hn2 w)
  have C7 := fun w => Lib.hid (tops_any n hn2 w)
  have C8 := fun w => Lib.hid (rtops_any n hn2 w)
  have C9 := fun w => Lib.hid (cells_any n hn2 w)
  have C10 := fun w => Lib.hid (rcells_any n hn2 w)
  have C11 := fun w => Lib.hid (offset_any l r hl3 hr3 w)
  rw [show 32 * l + r = o by omega] at C11
  have C12 := fun w => Lib.hid (width_any n l hn2 hl3 w)
  have C13 := fun w => Lib.hid (rwidth_any n l hn2 hl3 w)
  generalize wd n l = W at C12 C13
  generalize lv n + tv n + 1 = CC at C9 C10
  generalize lv n + tv n = R at C3 C4
  generalize lv n + l / 64 = T at C1 C2
  generalize l % 64 = D at C1 C2
  generalize l / 64 = Q at C3 C4
  generalize lv n = L at C5 C6
  generalize tv n = M at C7 C8
  clear hl2 hr2
  go_enter Try.func3, Try.ntmps3
  go_wp2_with (first
      | ((with_reducible refine (awake_any _).mono ?_); rintro e w' ⟨rfl, rfl⟩)
      | ((with_reducible refine ((C0 _).out).mono ?_); rintro e w' ⟨rfl, rfl⟩)
      | ((with_reducible refine ((C1 _).out).mono ?_); rintro e w' ⟨rfl, rfl⟩)
      | ((with_reducible refine ((C2 _).out).mono ?_); rintro e w' ⟨rfl, rfl⟩)
      | ((with_reducible refine ((C3 _).out).mono ?_); rintro e w' ⟨rfl, rfl⟩)
      | ((with_reducible refine ((C4 _).out).mono ?_); rintro e w' ⟨rfl, rfl⟩)
      | ((with_reducible refine ((C5 _).out).mono ?_); rintro e w' ⟨rfl, rfl⟩)
      | ((with_reducible refine ((C6 _).out).mono ?_); rintro e w' ⟨rfl, rfl⟩)
      | ((with_reducible refine ((C7 _).out).mono ?_); rintro e w' ⟨rfl, rfl⟩)
      | ((with_reducible refine ((C8 _).out).mono ?_); rintro e w' ⟨rfl, rfl⟩)
      | ((with_reducible refine ((C9 _).out).mono ?_); rintro e w' ⟨rfl, rfl⟩)
      | ((with_reducible refine ((C10 _).out).mono ?_); rintro e w' ⟨rfl, rfl⟩)
      | ((with_reducible refine ((C11 _).out).mono ?_); rintro e w' ⟨rfl, rfl⟩)
      | ((with_reducible refine ((C12 _).out).mono ?_); rintro e w' ⟨rfl, rfl⟩)
      | ((with_reducible refine ((C13 _).out).mono ?_); rintro e w' ⟨rfl, rfl⟩))
  go_ret
  exact ⟨rfl, Grown.refl _⟩
end Go.Proofs.Ytmhcgbmfdpljhaa.placeTells
