/-
  What the library's calls answer here: strings.Cut at one byte, strconv.AppendUint of base 10, strconv.Atoi, strconv.Itoa below 100; and what the calls need of package-level variables (a table of powers of ten, two errors), which no call turns.
-/
import Derived.Test.YtemchifjibkdfaaDoorShelf
import Derived.Test.YtemchifjibkdfaaDoorAddrMath
import Derived.Shelf.Strings.Cut
import Derived.WalkKit
import Derived.ProofKit
import Derived.OpenShut
import Derived.Lib.Hide
import Derived.Lib.AppendIntMem
import Derived.RegionTactic
import Derived.Deep.RegionWith
import Derived.Shelf.Strconv.ErrVarAll
namespace Go.Proofs.YtemchifjibkdfaaDoor
open Go.RowKit
/-- A string of these bytes. -/
abbrev S (l : List UInt8) : Value := .string ⟨l.toArray⟩
/-- What the calls need of the program's variables. -/
structure Laid (w : World) : Prop where
  tab : Lib.TabIs Tryd.prog w "internal/strconv.uint64pow10" .u64 Lib.pow10Tab
  syn : ∃ tp p, w.var? Tryd.prog "strconv.ErrSyntax" = some #[.iface tp p]
  rng : ∃ tp p, w.var? Tryd.prog "strconv.ErrRange" = some #[.iface tp p]
theorem var_below {P : Program} {w w' : World} {name : String} {cs : Array Value} (h : w.var? P name = some cs) (hb : Below w.heap.size w w') : w'.var? P name = some cs := by
  unfold World.var? at *
  cases hg : P.globalNamed name with
  | none => simp [hg] at h
  | some g =>
    simp only [hg, Option.bind_some] at h ⊢
    have hlt : g < w.heap.size := by
      rcases Nat.lt_or_ge g w.heap.size with h1 | h1
      · exact h1
      · exfalso
        rw [show w.heap[g]? = none from Array.getElem?_eq_none h1] at h
        simp at h
    rw [hb.block g hlt]
    exact h
theorem Laid.below {w w' : World} (h : Laid w) (hb : Below w.heap.size w w') : Laid w' := by
  obtain ⟨tp, p, h1⟩ := h.syn
  obtain ⟨tq, q, h2⟩ := h.rng
  exact ⟨var_below h.tab hb, ⟨tp, p, var_below h1 hb⟩, ⟨tq, q, var_below h2 hb⟩⟩
theorem size_mk (l : List UInt8) : (⟨l.toArray⟩ : ByteArray).size = l.length := by rw [Lib.size_eq]
set_option maxHeartbeats 2000000 in
set_option maxRecDepth 100000 in
theorem cutl_any (l : List UInt8) (c : UInt8) (hl : l.length ≤ 1000) (w : World) :
    Calls Tryd.prog 31 #[S l, .string ⟨#[c]⟩] w fun e w' => e = .returned (.tuple #[S (cut1 c l).1, S (cut1 c l).2.1, .bool (cut1 c l).2.2]) ∧ ∃ n, w' = w.drewN n := by
  have hs := size_mk l
  rcases cut1_index c l with ⟨h1, h2⟩ | ⟨i, h1, h2, h3⟩
  · rw [h2]
    go_enter Tryd.func31, Tryd.ntmps31
    go_wp2_with (go_at_call 36; refine (Tryd.stringslite_Index_one _ _ _).mono ?_; rintro e w' ⟨rfl, rfl⟩; rw [show Lib.indexByte (⟨l.toArray⟩ : ByteArray).data.toList c = _ from h1])
    go_ret3
    exact ⟨rfl, 0, rfl⟩
  · rw [h3]
    have c1 : (0 : Int) ≤ ↑i := by omega
    have c2 : (↑i : Int) ≤ ↑(⟨l.toArray⟩ : ByteArray).size := by omega
    have c3 : (0 : Int) ≤ ↑i + 1 := by omega
    have c4 : (↑i + 1 : Int) ≤ ↑(⟨l.toArray⟩ : ByteArray).size := by omega
    go_enter Tryd.func31, Tryd.ntmps31
    go_wp2_with (go_at_call 36; refine (Tryd.stringslite_Index_one _ _ _).mono ?_; rintro e w' ⟨rfl, rfl⟩; rw [show Lib.indexByte (⟨l.toArray⟩ : ByteArray).data.toList c = _ from h1])
    go_region
    go_wp2
    go_ret3
    refine ⟨?_, 1, rfl⟩
    have e1 : (⟨l.toArray⟩ : ByteArray).extract 0 i = ⟨(l.take i).toArray⟩ := by rw [Lib.extract_eq]; simp
    have e2 : (⟨l.toArray⟩ : ByteArray).extract (i + 1) l.length = ⟨(l.drop (i + 1)).toArray⟩ := by
      rw [Lib.extract_eq, List.take_of_length_le (by simp)]
    change Ending.returned (.tuple #[.string ((⟨l.toArray⟩ : ByteArray).extract 0 i), .string ((⟨l.toArray⟩ : ByteArray).extract (i + 1) l.length), .bool true]) = _
    rw [e1, e2]
theorem cut_any (l : List UInt8) (c : UInt8) (hl : l.length ≤ 1000) (w : World) :
    Calls Tryd.prog 25 #[S l, .string ⟨#[c]⟩] w fun e w' => e = .returned (.tuple #[S (cut1 c l).1, S (cut1 c l).2.1, .bool (cut1 c l).2.2]) ∧ Below w.heap.size w w' := by
  go_enter Tryd.func25, Tryd.ntmps25
  go_wp2_with (go_at_call 31; refine (cutl_any l c hl _).mono ?_; rintro e w' ⟨rfl, n, rfl⟩)
  go_ret3
  exact ⟨rfl, ⟨rfl, rfl, rfl, Nat.le_refl _, fun _ _ => rfl⟩⟩
theorem appendUint_any (B n u : Nat) (hu : u < 256) (sv : Value) (xs : List Value) (w : World) (hown : w.ownsRow B 5 1 sv n xs) (hB : B ≤ w.heap.size) (hn : n ≤ 1000) (htab : Lib.TabIs Tryd.prog w "internal/strconv.uint64pow10" .u64 Lib.pow10Tab) :
    Calls Tryd.prog 28 #[sv, .int .u64 u, .int .i64 10] w fun e w' => ∃ v', e = .returned v' ∧ w'.ownsRow B 5 1 v' (n + (d3 u).length) (xs ++ Lib.byteCells (d3 u)) ∧ Below B w w' := by
  have T := Lib.hid (Tryd.internal_strconv_AppendUint_10 B n u (by omega) sv xs w hown hB (by omega) htab)
  rw [dec_d3 (by omega)] at T
  go_enter Tryd.func28, Tryd.ntmps28
  go_wp2_with fail
  refine (T.out).mono ?_
  rintro e w' ⟨v', rfl, h1, h2, -⟩
  go_wp2
  go_ret
  exact ⟨_, rfl, h1, h2⟩
theorem itoa_any (p : Nat) (hp : p < 100) (w : World) :
    Calls Tryd.prog 20 #[.int .i64 p] w fun e w' => e = .returned (S (d3 p)) ∧ w' = w := by
  have := Tryd.strconv_Itoa_small p hp w
  rw [dec_d3 (by omega)] at this
  exact this
theorem atoi_ok (l : List UInt8) (hl : l.length ≤ 1000) (v : Int) (h : Lib.atoiAll l = .ok v) (w : World) :
    Calls Tryd.prog 26 #[S l] w fun e w' => e = .returned (.tuple #[.int .i64 v, .nilIface]) ∧ Below w.heap.size w w' := by
  refine (Tryd.strconv_Atoi_ok ⟨l.toArray⟩ (by rw [size_mk]; omega) v h w).mono ?_
  rintro e w' ⟨rfl, rfl | ⟨t, rfl⟩⟩
  · exact ⟨rfl, Below.refl _ _⟩
  · exact ⟨rfl, Lib.bytesWorld_below _ _ _⟩
theorem atoi_bad (l : List UInt8) (hl : l.length ≤ 1000) (h : ∀ v, Lib.atoiAll l ≠ .ok v) (w : World) (hw : Laid w) :
    Calls Tryd.prog 26 #[S l] w fun e w' => ∃ n tp p, e = .returned (.tuple #[.int .i64 n, .iface tp p]) ∧ Below w.heap.size w w' := by
  obtain ⟨tp, p, h1⟩ := hw.syn
  obtain ⟨tq, q, h2⟩ := hw.rng
  rcases hA : Lib.atoiAll l with v | _ | _
  · exact absurd hA (h v)
  · refine (Any.strconv_Atoi_syntax_var Tryd.laysC172 ⟨l.toArray⟩ (by rw [size_mk]; omega) hA tp p w h1).mono ?_
    rintro e w' ⟨N, rfl, -, -, hb⟩
    exact ⟨_, _, _, rfl, hb⟩
  · refine (Any.strconv_Atoi_range_var Tryd.laysC172 ⟨l.toArray⟩ (by rw [size_mk]; omega) hA tq q w h2).mono ?_
    rintro e w' ⟨N, rfl, -, -, hb⟩
    exact ⟨_, _, _, rfl, hb⟩
end Go.Proofs.YtemchifjibkdfaaDoor
