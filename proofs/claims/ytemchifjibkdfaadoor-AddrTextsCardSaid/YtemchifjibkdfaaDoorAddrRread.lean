/-
  What the document's own Parse and ParseBlock answer: the very same as addr's. Conditions: texts of at most 1000 bytes.
-/
import Derived.Test.YtemchifjibkdfaaDoorAddrNums
import Derived.StillTailTactics
namespace Go.Proofs.YtemchifjibkdfaaDoor
open Go.RowKit
theorem par_nums {l : List UInt8} {a : Nat} (h : par l = some a) : ∃ x y z u, x < 256 ∧ y < 256 ∧ z < 256 ∧ u < 256 ∧ numsF 0 l = [x, y, z, u] := by
  obtain ⟨ha, e⟩ := par_inv h
  refine ⟨a / 16777216, a / 65536 % 256, a / 256 % 256, a % 256, by omega, by omega, by omega, by omega, ?_⟩
  rw [e]
  exact nums_txt4 (by omega) (by omega) (by omega) (by omega)
theorem parB_nums {l : List UInt8} {a p : Nat} (h : parB l = some (a, p)) : ∃ x y z u, x < 256 ∧ y < 256 ∧ z < 256 ∧ u < 256 ∧ a = ad x y z u ∧ numsF 0 l = [x, y, z, u, p] := by
  obtain ⟨ha, hm, e⟩ := parB_inv h
  have := mayB_rng hm
  refine ⟨a / 16777216, a / 65536 % 256, a / 256 % 256, a % 256, by omega, by omega, by omega, by omega, (ad_of a).symm, ?_⟩
  rw [e]
  exact nums_btxt (by omega) (by omega) (by omega) (by omega) (by omega)
theorem ad_lt {x y z u : Nat} (hx : x < 256) (hy : y < 256) (hz : z < 256) (hu : u < 256) : ad x y z u < 4294967296 := by unfold ad; omega
/-- The cells of a list of numbers. -/
theorem is_cells {lo : Nat} {w : World} {A : Option Addr} {n c : Nat} {ns : List Nat} (h : IS .i64 lo w A n c (zi ns)) (hn : 0 < n) : ∃ b o, A = some ⟨b, o, none⟩ ∧ ∀ j v, ns[j]? = some v → w.cell? ⟨b, o + j, none⟩ = some (.int .i64 (v : Nat)) := by
  obtain ⟨b, o, rfl, _, _, hc⟩ := h.cells hn
  refine ⟨b, o, rfl, fun j v hv => ?_⟩
  have hj : j < ns.length := (List.getElem?_eq_some_iff.1 hv).1
  have hl := h.len
  rw [zi_len] at hl
  have e := hc j (by omega)
  have : gi (zi ns) j = (v : Int) := by
    unfold gi zi
    rw [List.getD_eq_getElem?_getD, List.getElem?_map, hv]
    rfl
  rw [this] at e
  exact e
/-- The sums of an address' four bytes, as numbers of 32 bits. -/
theorem sums (x y z u : Nat) (hx : x < 256) (hy : y < 256) (hz : z < 256) (hu : u < 256) : ∃ p0 p1 p2 s1 s2 : Nat,
    IntKind.u32.wrap ((x : Int) * 16777216) = (p0 : Int) ∧ IntKind.u32.wrap ((y : Int) * 65536) = (p1 : Int) ∧ IntKind.u32.wrap ((z : Int) * 256) = (p2 : Int) ∧ IntKind.u32.wrap ((p0 : Int) + (p1 : Int)) = (s1 : Int) ∧ IntKind.u32.wrap ((s1 : Int) + (p2 : Int)) = (s2 : Int) ∧ IntKind.u32.wrap ((s2 : Int) + (u : Int)) = (ad x y z u : Nat) ∧ p0 < 4294967296 ∧ p1 < 4294967296 ∧ p2 < 4294967296 ∧ s1 < 4294967296 ∧ s2 < 4294967296 := by
  refine ⟨x * 16777216, y * 65536, z * 256, x * 16777216 + y * 65536, x * 16777216 + y * 65536 + z * 256, ?_, ?_, ?_, ?_, ?_, ?_, by omega, by omega, by omega, by omega, by omega⟩
  · rw [IntWalk.u32_in _ (by omega)]; omega
  · rw [IntWalk.u32_in _ (by omega)]; omega
  · rw [IntWalk.u32_in _ (by omega)]; omega
  · rw [IntWalk.u32_in _ (by omega)]; omega
  · rw [IntWalk.u32_in _ (by omega)]; omega
  · unfold ad; rw [IntWalk.u32_in _ (by omega)]; omega

set_option maxRecDepth 100000 in
set_option maxHeartbeats 1000000 in
theorem rp_len (l : List UInt8) (hl : l.length ≤ 1000) (w : World) (n : Nat) (hn : (numsF 0 l).length = n) (h4 : n ≠ 4) :
    Calls Tryd.prog 12 #[S l] w fun e w' => e = .returned (.tuple #[.int .u32 0, .int .i64 2]) ∧ Below w.heap.size w w' := by
  have T := Lib.hid (nums_any l hl w)
  rw [hn] at T
  clear hn
  have e4 : ((n : Int) != 4) = true := by simp; omega
  go_enter Tryd.func12, Tryd.ntmps12
  go_wp2_with fail
  refine (T.out).mono ?_
  rintro e w1 ⟨A, c, rfl, I, K1⟩
  clear T I
  go_wp2
  go_ret2
  exact ⟨rfl, K1⟩
set_option maxRecDepth 100000 in
set_option maxHeartbeats 1000000 in
theorem rp_bad0 (l : List UInt8) (hl : l.length ≤ 1000) (w : World) (x y z u : Nat) (hns : numsF 0 l = [x, y, z, u]) (hx : 255 < x) :
    Calls Tryd.prog 12 #[S l] w fun e w' => e = .returned (.tuple #[.int .u32 0, .int .i64 2]) ∧ Below w.heap.size w w' := by
  have e0 : decide ((255 : Int) < (x : Int)) = true := decide_eq_true (by omega)
  have T := Lib.hid (nums_any l hl w)
  rw [hns] at T
  clear hns
  go_enter Tryd.func12, Tryd.ntmps12
  go_wp2_with fail
  refine (T.out).mono ?_
  rintro e w1 ⟨A, c, rfl, I, K1⟩
  obtain ⟨b, o, rfl, hc⟩ := is_cells I (by simp)
  have c0 := hc 0 x rfl
  rw [Nat.add_zero] at c0
  clear T I hc
  go_wp2
  go_ret2
  exact ⟨rfl, K1⟩
set_option maxRecDepth 100000 in
set_option maxHeartbeats 1000000 in
theorem rp_bad1 (l : List UInt8) (hl : l.length ≤ 1000) (w : World) (x y z u : Nat) (hns : numsF 0 l = [x, y, z, u]) (hx : x < 256) (hy : 255 < y) :
    Calls Tryd.prog 12 #[S l] w fun e w' => e = .returned (.tuple #[.int .u32 0, .int .i64 2]) ∧ Below w.heap.size w w' := by
  have e0 : decide ((255 : Int) < (x : Int)) = false := decide_eq_false (by omega)
  have e1 : decide ((255 : Int) < (y : Int)) = true := decide_eq_true (by omega)
  have T := Lib.hid (nums_any l hl w)
  rw [hns] at T
  clear hns
  go_enter Tryd.func12, Tryd.ntmps12
  go_wp2_with fail
  refine (T.out).mono ?_
  rintro e w1 ⟨A, c, rfl, I, K1⟩
  obtain ⟨b, o, rfl, hc⟩ := is_cells I (by simp)
  have c0 := hc 0 x rfl
  have c1 := hc 1 y rfl
  rw [Nat.add_zero] at c0
  clear T I hc
  go_wp2
  go_ret2
  exact ⟨rfl, K1⟩
set_option maxRecDepth 100000 in
set_option maxHeartbeats 1000000 in
theorem rp_bad2 (l : List UInt8) (hl : l.length ≤ 1000) (w : World) (x y z u : Nat) (hns : numsF 0 l = [x, y, z, u]) (hx : x < 256) (hy : y < 256) (hz : 255 < z) :
    Calls Tryd.prog 12 #[S l] w fun e w' => e = .returned (.tuple #[.int .u32 0, .int .i64 2]) ∧ Below w.heap.size w w' := by
  have e0 : decide ((255 : Int) < (x : Int)) = false := decide_eq_false (by omega)
  have e1 : decide ((255 : Int) < (y : Int)) = false := decide_eq_false (by omega)
  have e2 : decide ((255 : Int) < (z : Int)) = true := decide_eq_true (by omega)
  have T := Lib.hid (nums_any l hl w)
  rw [hns] at T
  clear hns
  go_enter Tryd.func12, Tryd.ntmps12
  go_wp2_with fail
  refine (T.out).mono ?_
  rintro e w1 ⟨A, c, rfl, I, K1⟩
  obtain ⟨b, o, rfl, hc⟩ := is_cells I (by simp)
  have c0 := hc 0 x rfl
  have c1 := hc 1 y rfl
  have c2 := hc 2 z rfl
  rw [Nat.add_zero] at c0
  clear T I hc
  go_wp2
  go_ret2
  exact ⟨rfl, K1⟩
set_option maxRecDepth 100000 in
set_option maxHeartbeats 1000000 in
theorem rp_bad3 (l : List UInt8) (hl : l.length ≤ 1000) (w : World) (x y z u : Nat) (hns : numsF 0 l = [x, y, z, u]) (hx : x < 256) (hy : y < 256) (hz : z < 256) (hu : 255 < u) :
    Calls Tryd.prog 12 #[S l] w fun e w' => e = .returned (.tuple #[.int .u32 0, .int .i64 2]) ∧ Below w.heap.size w w' := by
  have e0 : decide ((255 : Int) < (x : Int)) = false := decide_eq_false (by omega)
  have e1 : decide ((255 : Int) < (y : Int)) = false := decide_eq_false (by omega)
  have e2 : decide ((255 : Int) < (z : Int)) = false := decide_eq_false (by omega)
  have e3 : decide ((255 : Int) < (u : Int)) = true := decide_eq_true (by omega)
  have T := Lib.hid (nums_any l hl w)
  rw [hns] at T
  clear hns
  go_enter Tryd.func12, Tryd.ntmps12
  go_wp2_with fail
  refine (T.out).mono ?_
  rintro e w1 ⟨A, c, rfl, I, K1⟩
  obtain ⟨b, o, rfl, hc⟩ := is_cells I (by simp)
  have c0 := hc 0 x rfl
  have c1 := hc 1 y rfl
  have c2 := hc 2 z rfl
  have c3 := hc 3 u rfl
  rw [Nat.add_zero] at c0
  clear T I hc
  go_wp2
  go_ret2
  exact ⟨rfl, K1⟩
set_option maxRecDepth 100000 in
set_option maxHeartbeats 1000000 in
theorem rp_yes (l : List UInt8) (hl : l.length ≤ 1000) (w : World) (x y z u : Nat) (hns : numsF 0 l = [x, y, z, u]) (hx : x < 256) (hy : y < 256) (hz : z < 256) (hu : u < 256) (he : txt (ad x y z u) = l) :
    Calls Tryd.prog 12 #[S l] w fun e w' => e = .returned (.tuple #[.int .u32 (ad x y z u : Nat), .int .i64 0]) ∧ Below w.heap.size w w' := by
  have e0 : decide ((255 : Int) < (x : Int)) = false := decide_eq_false (by omega)
  have e1 : decide ((255 : Int) < (y : Int)) = false := decide_eq_false (by omega)
  have e2 : decide ((255 : Int) < (z : Int)) = false := decide_eq_false (by omega)
  have e3 : decide ((255 : Int) < (u : Int)) = false := decide_eq_false (by omega)
  have x0 : IntKind.u32.wrap (x : Int) = (x : Int) := IntWalk.u32_in _ (by omega)
  have x1 : IntKind.u32.wrap (y : Int) = (y : Int) := IntWalk.u32_in _ (by omega)
  have x2 : IntKind.u32.wrap (z : Int) = (z : Int) := IntWalk.u32_in _ (by omega)
  have x3 : IntKind.u32.wrap (u : Int) = (u : Int) := IntWalk.u32_in _ (by omega)
  obtain ⟨p0, p1, p2, s1, s2, m0, m1, m2, a1, a2, a3, _, _, _, _, _⟩ := sums x y z u hx hy hz hu
  have ha := ad_lt hx hy hz hu
  have R := fun w2 => Lib.hid (rtext_any (ad x y z u) ha w2)
  rw [he] at R
  clear he
  generalize ad x y z u = r at *
  have T := Lib.hid (nums_any l hl w)
  rw [hns] at T
  clear hns
  go_enter Tryd.func12, Tryd.ntmps12
  go_wp2_with fail
  refine (T.out).mono ?_
  rintro e w1 ⟨A, c, rfl, I, K1⟩
  obtain ⟨b, o, rfl, hc⟩ := is_cells I (by simp)
  have c0 := hc 0 x rfl
  have c1 := hc 1 y rfl
  have c2 := hc 2 z rfl
  have c3 := hc 3 u rfl
  rw [Nat.add_zero] at c0
  clear T I hc
  go_wp2_with fail
  go_quiet (fail)
  go_wp2_with fail
  refine ((R _).out).mono ?_
  rintro e w3 ⟨rfl, K3⟩
  have K4 := Below.then_ (below_drewN K1 _) K3
  go_wp2
  go_ret2
  exact ⟨rfl, K4⟩
set_option maxRecDepth 100000 in
set_option maxHeartbeats 1000000 in
theorem rp_no (l : List UInt8) (hl : l.length ≤ 1000) (w : World) (x y z u : Nat) (hns : numsF 0 l = [x, y, z, u]) (hx : x < 256) (hy : y < 256) (hz : z < 256) (hu : u < 256) (he : txt (ad x y z u) ≠ l) :
    Calls Tryd.prog 12 #[S l] w fun e w' => e = .returned (.tuple #[.int .u32 0, .int .i64 2]) ∧ Below w.heap.size w w' := by
  have e0 : decide ((255 : Int) < (x : Int)) = false := decide_eq_false (by omega)
  have e1 : decide ((255 : Int) < (y : Int)) = false := decide_eq_false (by omega)
  have e2 : decide ((255 : Int) < (z : Int)) = false := decide_eq_false (by omega)
  have e3 : decide ((255 : Int) < (u : Int)) = false := decide_eq_false (by omega)
  have x0 : IntKind.u32.wrap (x : Int) = (x : Int) := IntWalk.u32_in _ (by omega)
  have x1 : IntKind.u32.wrap (y : Int) = (y : Int) := IntWalk.u32_in _ (by omega)
  have x2 : IntKind.u32.wrap (z : Int) = (z : Int) := IntWalk.u32_in _ (by omega)
  have x3 : IntKind.u32.wrap (u : Int) = (u : Int) := IntWalk.u32_in _ (by omega)
  obtain ⟨p0, p1, p2, s1, s2, m0, m1, m2, a1, a2, a3, _, _, _, _, _⟩ := sums x y z u hx hy hz hu
  have ha := ad_lt hx hy hz hu
  have R := fun w2 => Lib.hid (rtext_any (ad x y z u) ha w2)
  have eb : (txt (ad x y z u) == l) = false := by simpa using he
  clear he
  generalize ad x y z u = r at *
  generalize txt r = t at *
  have T := Lib.hid (nums_any l hl w)
  rw [hns] at T
  clear hns
  go_enter Tryd.func12, Tryd.ntmps12
  go_wp2_with fail
  refine (T.out).mono ?_
  rintro e w1 ⟨A, c, rfl, I, K1⟩
  obtain ⟨b, o, rfl, hc⟩ := is_cells I (by simp)
  have c0 := hc 0 x rfl
  have c1 := hc 1 y rfl
  have c2 := hc 2 z rfl
  have c3 := hc 3 u rfl
  rw [Nat.add_zero] at c0
  clear T I hc
  go_wp2_with fail
  go_quiet (fail)
  go_wp2_with fail
  refine ((R _).out).mono ?_
  rintro e w3 ⟨rfl, K3⟩
  have K4 := Below.then_ (below_drewN K1 _) K3
  go_wp2
  go_ret2
  exact ⟨rfl, K4⟩
theorem rparse_any (l : List UInt8) (hl : l.length ≤ 1000) (w : World) :
    Calls Tryd.prog 12 #[S l] w fun e w' => e = .returned (.tuple #[.int .u32 ((par l).getD 0 : Nat), .int .i64 (er (par l))]) ∧ Below w.heap.size w w' := by
  have none_of : (∀ x y z u, numsF 0 l = [x, y, z, u] → x < 256 → y < 256 → z < 256 → u < 256 → False) → par l = none := fun h => by
    cases hP : par l with
    | none => rfl
    | some a =>
      obtain ⟨x, y, z, u, hx, hy, hz, hu, e⟩ := par_nums hP
      exact (h x y z u e hx hy hz hu).elim
  match hns : numsF 0 l with
  | [x, y, z, u] =>
    by_cases hx : x < 256
    · by_cases hy : y < 256
      · by_cases hz : z < 256
        · by_cases hu : u < 256
          · by_cases he : txt (ad x y z u) = l
            · have : par l = some (ad x y z u) := by rw [← he]; exact par_txt (ad_lt hx hy hz hu)
              rw [this]
              exact rp_yes l hl w x y z u hns hx hy hz hu he
            · have : par l = none := by
                cases hP : par l with
                | none => rfl
                | some a =>
                  obtain ⟨ha, e⟩ := par_inv hP
                  have e2 : numsF 0 l = [a / 16777216, a / 65536 % 256, a / 256 % 256, a % 256] := by
                    rw [e]
                    exact nums_txt4 (by omega) (by omega) (by omega) (by omega)
                  rw [hns] at e2
                  simp only [List.cons.injEq, and_true] at e2
                  obtain ⟨rfl, rfl, rfl, rfl⟩ := e2
                  rw [ad_of] at he
                  exact absurd e.symm he
              rw [this]
              exact rp_no l hl w x y z u hns hx hy hz hu he
          · rw [none_of (fun x' y' z' u' e _ _ _ h => by rw [hns] at e; simp only [List.cons.injEq, and_true] at e; omega)]
            exact rp_bad3 l hl w x y z u hns hx hy hz (by omega)
        · rw [none_of (fun x' y' z' u' e _ _ h _ => by rw [hns] at e; simp only [List.cons.injEq, and_true] at e; omega)]
          exact rp_bad2 l hl w x y z u hns hx hy (by omega)
      · rw [none_of (fun x' y' z' u' e _ h _ _ => by rw [hns] at e; simp only [List.cons.injEq, and_true] at e; omega)]
        exact rp_bad1 l hl w x y z u hns hx (by omega)
    · rw [none_of (fun x' y' z' u' e h _ _ _ => by rw [hns] at e; simp only [List.cons.injEq, and_true] at e; omega)]
      exact rp_bad0 l hl w x y z u hns (by omega)
  | [] => exact absurd (numsF_pos l 0) (by rw [hns]; simp)
  | [_] =>
    rw [none_of (fun x' y' z' u' e _ _ _ _ => by rw [hns] at e; simp at e)]
    exact rp_len l hl w 1 (by rw [hns]; rfl) (by omega)
  | [_, _] =>
    rw [none_of (fun x' y' z' u' e _ _ _ _ => by rw [hns] at e; simp at e)]
    exact rp_len l hl w 2 (by rw [hns]; rfl) (by omega)
  | [_, _, _] =>
    rw [none_of (fun x' y' z' u' e _ _ _ _ => by rw [hns] at e; simp at e)]
    exact rp_len l hl w 3 (by rw [hns]; rfl) (by omega)
  | _ :: _ :: _ :: _ :: _ :: r =>
    rw [none_of (fun x' y' z' u' e _ _ _ _ => by rw [hns] at e; simp at e)]
    exact rp_len l hl w (r.length + 5) (by rw [hns]; rfl) (by omega)
end Go.Proofs.YtemchifjibkdfaaDoor
