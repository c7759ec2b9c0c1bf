/-
  What the document's own ParseBlock answers: the very same as addr's. Conditions: texts of at most 1000 bytes.
-/
import Derived.Test.YtemchifjibkdfaaDoorAddrRread
namespace Go.Proofs.YtemchifjibkdfaaDoor
open Go.RowKit

set_option maxRecDepth 100000 in
set_option maxHeartbeats 2000000 in
theorem rb_len (l : List UInt8) (hl : l.length ≤ 1000) (w : World) (n : Nat) (hn : (numsF 0 l).length = n) (h5 : n ≠ 5) :
    Calls Tryd.prog 14 #[S l] w fun e w' => e = .returned (.tuple #[.agg #[.int .u32 0, .int .i64 0], .int .i64 2]) ∧ Below w.heap.size w w' := by
  have e5 : ((n : Int) != 5) = true := by simp; omega
  have L0 := below_alloc w (.cells #[.int .u32 0, .int .i64 0] 24)
  have T := Lib.hid (nums_any l hl (w.alloc (.cells #[.int .u32 0, .int .i64 0] 24)))
  rw [hn] at T
  clear hn
  go_enter Tryd.func14, Tryd.ntmps14
  go_wp2_with fail
  refine (T.out).mono ?_
  rintro e w1 ⟨A, c, rfl, I, K1⟩
  have G := Lib.hid ((B2.new w (.int .u32 0) (.int .i64 0)).below K1)
  replace K1 := Below.then_ L0 K1
  clear L0 T
  have g0 := G.out.c0
  have g1 := G.out.c1
  have f0 := G.out.fz 0
  have f1 := G.out.fz 1
  clear I
  go_wp2
  exact bodyPost_ret (v := .tuple #[.agg #[.int .u32 0, .int .i64 0], .int .i64 2]) (by simp [results, Tryd.results14, go_sem, g0, g1]) rfl ⟨rfl, (K1.setCell (Nat.le_refl _) _).setCell (Nat.le_refl _) _⟩
set_option maxRecDepth 100000 in
set_option maxHeartbeats 2000000 in
theorem rb_bad0 (l : List UInt8) (hl : l.length ≤ 1000) (w : World) (x y z u p : Nat) (hns : numsF 0 l = [x, y, z, u, p]) (hx : 255 < x) :
    Calls Tryd.prog 14 #[S l] w fun e w' => e = .returned (.tuple #[.agg #[.int .u32 0, .int .i64 0], .int .i64 2]) ∧ Below w.heap.size w w' := by
  have e0 : decide ((255 : Int) < (x : Int)) = true := decide_eq_true (by omega)
  have L0 := below_alloc w (.cells #[.int .u32 0, .int .i64 0] 24)
  have T := Lib.hid (nums_any l hl (w.alloc (.cells #[.int .u32 0, .int .i64 0] 24)))
  rw [hns] at T
  clear hns
  go_enter Tryd.func14, Tryd.ntmps14
  go_wp2_with fail
  refine (T.out).mono ?_
  rintro e w1 ⟨A, c, rfl, I, K1⟩
  have G := Lib.hid ((B2.new w (.int .u32 0) (.int .i64 0)).below K1)
  replace K1 := Below.then_ L0 K1
  clear L0 T
  have g0 := G.out.c0
  have g1 := G.out.c1
  have f0 := G.out.fz 0
  have f1 := G.out.fz 1
  obtain ⟨b, o, rfl, hc⟩ := is_cells I (by simp)
  have c0 := hc 0 x rfl
  rw [Nat.add_zero] at c0
  clear I hc
  go_wp2
  exact bodyPost_ret (v := .tuple #[.agg #[.int .u32 0, .int .i64 0], .int .i64 2]) (by simp [results, Tryd.results14, go_sem, g0, g1]) rfl ⟨rfl, (K1.setCell (Nat.le_refl _) _).setCell (Nat.le_refl _) _⟩
set_option maxRecDepth 100000 in
set_option maxHeartbeats 2000000 in
theorem rb_bad1 (l : List UInt8) (hl : l.length ≤ 1000) (w : World) (x y z u p : Nat) (hns : numsF 0 l = [x, y, z, u, p]) (hx : x < 256) (hy : 255 < y) :
    Calls Tryd.prog 14 #[S l] w fun e w' => e = .returned (.tuple #[.agg #[.int .u32 0, .int .i64 0], .int .i64 2]) ∧ Below w.heap.size w w' := by
  have e0 : decide ((255 : Int) < (x : Int)) = false := decide_eq_false (by omega)
  have e1 : decide ((255 : Int) < (y : Int)) = true := decide_eq_true (by omega)
  have L0 := below_alloc w (.cells #[.int .u32 0, .int .i64 0] 24)
  have T := Lib.hid (nums_any l hl (w.alloc (.cells #[.int .u32 0, .int .i64 0] 24)))
  rw [hns] at T
  clear hns
  go_enter Tryd.func14, Tryd.ntmps14
  go_wp2_with fail
  refine (T.out).mono ?_
  rintro e w1 ⟨A, c, rfl, I, K1⟩
  have G := Lib.hid ((B2.new w (.int .u32 0) (.int .i64 0)).below K1)
  replace K1 := Below.then_ L0 K1
  clear L0 T
  have g0 := G.out.c0
  have g1 := G.out.c1
  have f0 := G.out.fz 0
  have f1 := G.out.fz 1
  obtain ⟨b, o, rfl, hc⟩ := is_cells I (by simp)
  have c0 := hc 0 x rfl
  have c1 := hc 1 y rfl
  rw [Nat.add_zero] at c0
  clear I hc
  go_wp2
  exact bodyPost_ret (v := .tuple #[.agg #[.int .u32 0, .int .i64 0], .int .i64 2]) (by simp [results, Tryd.results14, go_sem, g0, g1]) rfl ⟨rfl, (K1.setCell (Nat.le_refl _) _).setCell (Nat.le_refl _) _⟩
set_option maxRecDepth 100000 in
set_option maxHeartbeats 2000000 in
theorem rb_bad2 (l : List UInt8) (hl : l.length ≤ 1000) (w : World) (x y z u p : Nat) (hns : numsF 0 l = [x, y, z, u, p]) (hx : x < 256) (hy : y < 256) (hz : 255 < z) :
    Calls Tryd.prog 14 #[S l] w fun e w' => e = .returned (.tuple #[.agg #[.int .u32 0, .int .i64 0], .int .i64 2]) ∧ Below w.heap.size w w' := by
  have e0 : decide ((255 : Int) < (x : Int)) = false := decide_eq_false (by omega)
  have e1 : decide ((255 : Int) < (y : Int)) = false := decide_eq_false (by omega)
  have e2 : decide ((255 : Int) < (z : Int)) = true := decide_eq_true (by omega)
  have L0 := below_alloc w (.cells #[.int .u32 0, .int .i64 0] 24)
  have T := Lib.hid (nums_any l hl (w.alloc (.cells #[.int .u32 0, .int .i64 0] 24)))
  rw [hns] at T
  clear hns
  go_enter Tryd.func14, Tryd.ntmps14
  go_wp2_with fail
  refine (T.out).mono ?_
  rintro e w1 ⟨A, c, rfl, I, K1⟩
  have G := Lib.hid ((B2.new w (.int .u32 0) (.int .i64 0)).below K1)
  replace K1 := Below.then_ L0 K1
  clear L0 T
  have g0 := G.out.c0
  have g1 := G.out.c1
  have f0 := G.out.fz 0
  have f1 := G.out.fz 1
  obtain ⟨b, o, rfl, hc⟩ := is_cells I (by simp)
  have c0 := hc 0 x rfl
  have c1 := hc 1 y rfl
  have c2 := hc 2 z rfl
  rw [Nat.add_zero] at c0
  clear I hc
  go_wp2
  exact bodyPost_ret (v := .tuple #[.agg #[.int .u32 0, .int .i64 0], .int .i64 2]) (by simp [results, Tryd.results14, go_sem, g0, g1]) rfl ⟨rfl, (K1.setCell (Nat.le_refl _) _).setCell (Nat.le_refl _) _⟩
set_option maxRecDepth 100000 in
set_option maxHeartbeats 2000000 in
theorem rb_bad3 (l : List UInt8) (hl : l.length ≤ 1000) (w : World) (x y z u p : Nat) (hns : numsF 0 l = [x, y, z, u, p]) (hx : x < 256) (hy : y < 256) (hz : z < 256) (hu : 255 < u) :
    Calls Tryd.prog 14 #[S l] w fun e w' => e = .returned (.tuple #[.agg #[.int .u32 0, .int .i64 0], .int .i64 2]) ∧ Below w.heap.size w w' := by
  have e0 : decide ((255 : Int) < (x : Int)) = false := decide_eq_false (by omega)
  have e1 : decide ((255 : Int) < (y : Int)) = false := decide_eq_false (by omega)
  have e2 : decide ((255 : Int) < (z : Int)) = false := decide_eq_false (by omega)
  have e3 : decide ((255 : Int) < (u : Int)) = true := decide_eq_true (by omega)
  have L0 := below_alloc w (.cells #[.int .u32 0, .int .i64 0] 24)
  have T := Lib.hid (nums_any l hl (w.alloc (.cells #[.int .u32 0, .int .i64 0] 24)))
  rw [hns] at T
  clear hns
  go_enter Tryd.func14, Tryd.ntmps14
  go_wp2_with fail
  refine (T.out).mono ?_
  rintro e w1 ⟨A, c, rfl, I, K1⟩
  have G := Lib.hid ((B2.new w (.int .u32 0) (.int .i64 0)).below K1)
  replace K1 := Below.then_ L0 K1
  clear L0 T
  have g0 := G.out.c0
  have g1 := G.out.c1
  have f0 := G.out.fz 0
  have f1 := G.out.fz 1
  obtain ⟨b, o, rfl, hc⟩ := is_cells I (by simp)
  have c0 := hc 0 x rfl
  have c1 := hc 1 y rfl
  have c2 := hc 2 z rfl
  have c3 := hc 3 u rfl
  rw [Nat.add_zero] at c0
  clear I hc
  go_wp2
  exact bodyPost_ret (v := .tuple #[.agg #[.int .u32 0, .int .i64 0], .int .i64 2]) (by simp [results, Tryd.results14, go_sem, g0, g1]) rfl ⟨rfl, (K1.setCell (Nat.le_refl _) _).setCell (Nat.le_refl _) _⟩
set_option maxRecDepth 100000 in
set_option maxHeartbeats 2000000 in
theorem rb_may (l : List UInt8) (hl : l.length ≤ 1000) (w : World) (x y z u p : Nat) (hns : numsF 0 l = [x, y, z, u, p]) (hx : x < 256) (hy : y < 256) (hz : z < 256) (hu : u < 256) (hm : mayB (ad x y z u) p = false) :
    Calls Tryd.prog 14 #[S l] w fun e w' => e = .returned (.tuple #[.agg #[.int .u32 0, .int .i64 0], .int .i64 2]) ∧ Below w.heap.size w w' := by
  have e0 : decide ((255 : Int) < (x : Int)) = false := decide_eq_false (by omega)
  have e1 : decide ((255 : Int) < (y : Int)) = false := decide_eq_false (by omega)
  have e2 : decide ((255 : Int) < (z : Int)) = false := decide_eq_false (by omega)
  have e3 : decide ((255 : Int) < (u : Int)) = false := decide_eq_false (by omega)
  have x0 : IntKind.u32.wrap (x : Int) = (x : Int) := IntWalk.u32_in _ (by omega)
  have x1 : IntKind.u32.wrap (y : Int) = (y : Int) := IntWalk.u32_in _ (by omega)
  have x2 : IntKind.u32.wrap (z : Int) = (z : Int) := IntWalk.u32_in _ (by omega)
  have x3 : IntKind.u32.wrap (u : Int) = (u : Int) := IntWalk.u32_in _ (by omega)
  obtain ⟨p0, p1, p2, s1, s2, m0, m1, m2, a1, a2, a3, _, _, _, _, _⟩ := sums x y z u hx hy hz hu
  have ha := ad_lt hx hy hz hu
  have R := fun w2 => Lib.hid (rbtext_any (ad x y z u) ha p w2)
  rw [hm] at R
  generalize ad x y z u = r at *
  have L0 := below_alloc w (.cells #[.int .u32 0, .int .i64 0] 24)
  have T := Lib.hid (nums_any l hl (w.alloc (.cells #[.int .u32 0, .int .i64 0] 24)))
  rw [hns] at T
  clear hns
  go_enter Tryd.func14, Tryd.ntmps14
  go_wp2_with fail
  refine (T.out).mono ?_
  rintro e w1 ⟨A, c, rfl, I, K1⟩
  have G := Lib.hid ((B2.new w (.int .u32 0) (.int .i64 0)).below K1)
  replace K1 := Below.then_ L0 K1
  clear L0 T
  obtain ⟨b, o, rfl, hc⟩ := is_cells I (by simp)
  have c0 := hc 0 x rfl
  have c1 := hc 1 y rfl
  have c2 := hc 2 z rfl
  have c3 := hc 3 u rfl
  have c4 := hc 4 p rfl
  rw [Nat.add_zero] at c0
  clear I hc hm
  go_wp2_with fail
  have lb := World.block_lt_of_cell? w1 _ c0
  go_region_held3 (fun w' => w'.cell? ⟨b, o, none⟩ = some (.int .i64 x) ∧ w'.cell? ⟨b, o + 1, none⟩ = some (.int .i64 y) ∧ w'.cell? ⟨b, o + 2, none⟩ = some (.int .i64 z) ∧ w'.cell? ⟨b, o + 3, none⟩ = some (.int .i64 u) ∧ w'.cell? ⟨b, o + 4, none⟩ = some (.int .i64 p)) (first | go_keep) ((fail))
  have K2 : Below w.heap.size w ((w1.alloc (.cells #[.int .u32 r, .int .i64 p] 24)).drew) := (Below.then_ K1 (below_alloc w1 _)).drew
  have N2 : B2 ((w1.alloc (.cells #[.int .u32 r, .int .i64 p] 24)).drew) w1.heap.size (.int .u32 r) (.int .i64 p) := B2.new w1 (.int .u32 r) (.int .i64 p)
  have G2 : B2 ((w1.alloc (.cells #[.int .u32 r, .int .i64 p] 24)).drew) w.heap.size (.int .u32 0) (.int .i64 0) := G.out.alloc (.cells #[.int .u32 r, .int .i64 p] 24)
  generalize (w1.alloc (.cells #[.int .u32 r, .int .i64 p] 24)).drew = w2 at *
  have n0 := N2.c0
  have n1 := N2.c1
  replace N2 := Lib.hid N2
  replace G2 := Lib.hid G2
  clear G K1 c0 c1 c2 c3 c4 lb
  go_wp2_with fail
  refine ((R _).out).mono ?_
  rintro e w3 ⟨rfl, K3⟩
  have G := Lib.hid (G2.out.below K3)
  have N := Lib.hid (N2.out.below K3)
  replace K3 := Below.then_ K2 K3
  clear R G2 N2 K2 n0 n1
  have g0 := G.out.c0
  have g1 := G.out.c1
  have f0 := G.out.fz 0
  have f1 := G.out.fz 1
  go_wp2
  exact bodyPost_ret (v := .tuple #[.agg #[.int .u32 0, .int .i64 0], .int .i64 2]) (by simp [results, Tryd.results14, go_sem, g0, g1]) rfl ⟨rfl, (K3.setCell (Nat.le_refl _) _).setCell (Nat.le_refl _) _⟩
set_option maxRecDepth 100000 in
set_option maxHeartbeats 2000000 in
theorem rb_ne (l : List UInt8) (hl : l.length ≤ 1000) (w : World) (x y z u p : Nat) (hns : numsF 0 l = [x, y, z, u, p]) (hx : x < 256) (hy : y < 256) (hz : z < 256) (hu : u < 256) (hm : mayB (ad x y z u) p = true) (he : btxt (ad x y z u) p ≠ l) :
    Calls Tryd.prog 14 #[S l] w fun e w' => e = .returned (.tuple #[.agg #[.int .u32 0, .int .i64 0], .int .i64 2]) ∧ Below w.heap.size w w' := by
  have e0 : decide ((255 : Int) < (x : Int)) = false := decide_eq_false (by omega)
  have e1 : decide ((255 : Int) < (y : Int)) = false := decide_eq_false (by omega)
  have e2 : decide ((255 : Int) < (z : Int)) = false := decide_eq_false (by omega)
  have e3 : decide ((255 : Int) < (u : Int)) = false := decide_eq_false (by omega)
  have x0 : IntKind.u32.wrap (x : Int) = (x : Int) := IntWalk.u32_in _ (by omega)
  have x1 : IntKind.u32.wrap (y : Int) = (y : Int) := IntWalk.u32_in _ (by omega)
  have x2 : IntKind.u32.wrap (z : Int) = (z : Int) := IntWalk.u32_in _ (by omega)
  have x3 : IntKind.u32.wrap (u : Int) = (u : Int) := IntWalk.u32_in _ (by omega)
  obtain ⟨p0, p1, p2, s1, s2, m0, m1, m2, a1, a2, a3, _, _, _, _, _⟩ := sums x y z u hx hy hz hu
  have ha := ad_lt hx hy hz hu
  have R := fun w2 => Lib.hid (rbtext_any (ad x y z u) ha p w2)
  rw [hm] at R
  simp only [if_true, Int.toNat_natCast] at R
  have eb : (btxt (ad x y z u) p == l) = false := by simpa using he
  clear he
  generalize ad x y z u = r at *
  generalize btxt r p = t at *
  have L0 := below_alloc w (.cells #[.int .u32 0, .int .i64 0] 24)
  have T := Lib.hid (nums_any l hl (w.alloc (.cells #[.int .u32 0, .int .i64 0] 24)))
  rw [hns] at T
  clear hns
  go_enter Tryd.func14, Tryd.ntmps14
  go_wp2_with fail
  refine (T.out).mono ?_
  rintro e w1 ⟨A, c, rfl, I, K1⟩
  have G := Lib.hid ((B2.new w (.int .u32 0) (.int .i64 0)).below K1)
  replace K1 := Below.then_ L0 K1
  clear L0 T
  obtain ⟨b, o, rfl, hc⟩ := is_cells I (by simp)
  have c0 := hc 0 x rfl
  have c1 := hc 1 y rfl
  have c2 := hc 2 z rfl
  have c3 := hc 3 u rfl
  have c4 := hc 4 p rfl
  rw [Nat.add_zero] at c0
  clear I hc hm
  go_wp2_with fail
  have lb := World.block_lt_of_cell? w1 _ c0
  go_region_held3 (fun w' => w'.cell? ⟨b, o, none⟩ = some (.int .i64 x) ∧ w'.cell? ⟨b, o + 1, none⟩ = some (.int .i64 y) ∧ w'.cell? ⟨b, o + 2, none⟩ = some (.int .i64 z) ∧ w'.cell? ⟨b, o + 3, none⟩ = some (.int .i64 u) ∧ w'.cell? ⟨b, o + 4, none⟩ = some (.int .i64 p)) (first | go_keep) ((fail))
  have K2 : Below w.heap.size w ((w1.alloc (.cells #[.int .u32 r, .int .i64 p] 24)).drew) := (Below.then_ K1 (below_alloc w1 _)).drew
  have N2 : B2 ((w1.alloc (.cells #[.int .u32 r, .int .i64 p] 24)).drew) w1.heap.size (.int .u32 r) (.int .i64 p) := B2.new w1 (.int .u32 r) (.int .i64 p)
  have G2 : B2 ((w1.alloc (.cells #[.int .u32 r, .int .i64 p] 24)).drew) w.heap.size (.int .u32 0) (.int .i64 0) := G.out.alloc (.cells #[.int .u32 r, .int .i64 p] 24)
  generalize (w1.alloc (.cells #[.int .u32 r, .int .i64 p] 24)).drew = w2 at *
  have n0 := N2.c0
  have n1 := N2.c1
  replace N2 := Lib.hid N2
  replace G2 := Lib.hid G2
  clear G K1 c0 c1 c2 c3 c4 lb
  go_wp2_with fail
  refine ((R _).out).mono ?_
  rintro e w3 ⟨rfl, K3⟩
  have G := Lib.hid (G2.out.below K3)
  have N := Lib.hid (N2.out.below K3)
  replace K3 := Below.then_ K2 K3
  clear R G2 N2 K2 n0 n1
  have g0 := G.out.c0
  have g1 := G.out.c1
  have f0 := G.out.fz 0
  have f1 := G.out.fz 1
  go_wp2
  exact bodyPost_ret (v := .tuple #[.agg #[.int .u32 0, .int .i64 0], .int .i64 2]) (by simp [results, Tryd.results14, go_sem, g0, g1]) rfl ⟨rfl, (K3.setCell (Nat.le_refl _) _).setCell (Nat.le_refl _) _⟩
set_option maxRecDepth 100000 in
set_option maxHeartbeats 2000000 in
theorem rb_eq (l : List UInt8) (hl : l.length ≤ 1000) (w : World) (x y z u p : Nat) (hns : numsF 0 l = [x, y, z, u, p]) (hx : x < 256) (hy : y < 256) (hz : z < 256) (hu : u < 256) (hm : mayB (ad x y z u) p = true) (he : btxt (ad x y z u) p = l) :
    Calls Tryd.prog 14 #[S l] w fun e w' => e = .returned (.tuple #[.agg #[.int .u32 (ad x y z u : Nat), .int .i64 p], .int .i64 0]) ∧ Below w.heap.size w w' := by
  have e0 : decide ((255 : Int) < (x : Int)) = false := decide_eq_false (by omega)
  have e1 : decide ((255 : Int) < (y : Int)) = false := decide_eq_false (by omega)
  have e2 : decide ((255 : Int) < (z : Int)) = false := decide_eq_false (by omega)
  have e3 : decide ((255 : Int) < (u : Int)) = false := decide_eq_false (by omega)
  have x0 : IntKind.u32.wrap (x : Int) = (x : Int) := IntWalk.u32_in _ (by omega)
  have x1 : IntKind.u32.wrap (y : Int) = (y : Int) := IntWalk.u32_in _ (by omega)
  have x2 : IntKind.u32.wrap (z : Int) = (z : Int) := IntWalk.u32_in _ (by omega)
  have x3 : IntKind.u32.wrap (u : Int) = (u : Int) := IntWalk.u32_in _ (by omega)
  obtain ⟨p0, p1, p2, s1, s2, m0, m1, m2, a1, a2, a3, _, _, _, _, _⟩ := sums x y z u hx hy hz hu
  have ha := ad_lt hx hy hz hu
  have R := fun w2 => Lib.hid (rbtext_any (ad x y z u) ha p w2)
  rw [hm] at R
  simp only [if_true, Int.toNat_natCast] at R
  rw [he] at R
  clear he
  generalize ad x y z u = r at *
  have L0 := below_alloc w (.cells #[.int .u32 0, .int .i64 0] 24)
  have T := Lib.hid (nums_any l hl (w.alloc (.cells #[.int .u32 0, .int .i64 0] 24)))
  rw [hns] at T
  clear hns
  go_enter Tryd.func14, Tryd.ntmps14
  go_wp2_with fail
  refine (T.out).mono ?_
  rintro e w1 ⟨A, c, rfl, I, K1⟩
  have G := Lib.hid ((B2.new w (.int .u32 0) (.int .i64 0)).below K1)
  replace K1 := Below.then_ L0 K1
  clear L0 T
  obtain ⟨b, o, rfl, hc⟩ := is_cells I (by simp)
  have c0 := hc 0 x rfl
  have c1 := hc 1 y rfl
  have c2 := hc 2 z rfl
  have c3 := hc 3 u rfl
  have c4 := hc 4 p rfl
  rw [Nat.add_zero] at c0
  clear I hc hm
  go_wp2_with fail
  have lb := World.block_lt_of_cell? w1 _ c0
  go_region_held3 (fun w' => w'.cell? ⟨b, o, none⟩ = some (.int .i64 x) ∧ w'.cell? ⟨b, o + 1, none⟩ = some (.int .i64 y) ∧ w'.cell? ⟨b, o + 2, none⟩ = some (.int .i64 z) ∧ w'.cell? ⟨b, o + 3, none⟩ = some (.int .i64 u) ∧ w'.cell? ⟨b, o + 4, none⟩ = some (.int .i64 p)) (first | go_keep) ((fail))
  have K2 : Below w.heap.size w ((w1.alloc (.cells #[.int .u32 r, .int .i64 p] 24)).drew) := (Below.then_ K1 (below_alloc w1 _)).drew
  have N2 : B2 ((w1.alloc (.cells #[.int .u32 r, .int .i64 p] 24)).drew) w1.heap.size (.int .u32 r) (.int .i64 p) := B2.new w1 (.int .u32 r) (.int .i64 p)
  have G2 : B2 ((w1.alloc (.cells #[.int .u32 r, .int .i64 p] 24)).drew) w.heap.size (.int .u32 0) (.int .i64 0) := G.out.alloc (.cells #[.int .u32 r, .int .i64 p] 24)
  generalize (w1.alloc (.cells #[.int .u32 r, .int .i64 p] 24)).drew = w2 at *
  have n0 := N2.c0
  have n1 := N2.c1
  replace N2 := Lib.hid N2
  replace G2 := Lib.hid G2
  clear G K1 c0 c1 c2 c3 c4 lb
  go_wp2_with fail
  refine ((R _).out).mono ?_
  rintro e w3 ⟨rfl, K3⟩
  have G := Lib.hid (G2.out.below K3)
  have N := Lib.hid (N2.out.below K3)
  replace K3 := Below.then_ K2 K3
  clear R G2 N2 K2 n0 n1
  have g0 := G.out.c0
  have g1 := G.out.c1
  have f0 := G.out.fz 0
  have f1 := G.out.fz 1
  have b0 := N.out.c0
  have b1 := N.out.c1
  go_wp2
  exact bodyPost_ret (v := .tuple #[.agg #[.int .u32 r, .int .i64 p], .int .i64 0]) (by simp [results, Tryd.results14, go_sem, g0, g1]) rfl ⟨rfl, (K3.setCell (Nat.le_refl _) _).setCell (Nat.le_refl _) _⟩
theorem rpblock_any (l : List UInt8) (hl : l.length ≤ 1000) (w : World) :
    Calls Tryd.prog 14 #[S l] w fun e w' => e = .returned (.tuple #[bk (parB l), .int .i64 (er (parB l))]) ∧ Below w.heap.size w w' := by
  have none_of : (∀ x y z u p, numsF 0 l = [x, y, z, u, p] → x < 256 → y < 256 → z < 256 → u < 256 → mayB (ad x y z u) p = true → l = btxt (ad x y z u) p → False) → parB l = none := fun h => by
    cases hP : parB l with
    | none => rfl
    | some ap =>
      obtain ⟨x, y, z, u, hx, hy, hz, hu, ea, e⟩ := parB_nums (a := ap.1) (p := ap.2) hP
      obtain ⟨_, h2, h3⟩ := parB_inv (a := ap.1) (p := ap.2) hP
      rw [ea] at h2 h3
      exact (h x y z u ap.2 e hx hy hz hu h2 h3).elim
  match hns : numsF 0 l with
  | [x, y, z, u, p] =>
    by_cases hx : x < 256
    · by_cases hy : y < 256
      · by_cases hz : z < 256
        · by_cases hu : u < 256
          · cases hm : mayB (ad x y z u) p with
            | false =>
              rw [none_of (fun x' y' z' u' p' e _ _ _ _ h _ => by rw [hns] at e; simp only [List.cons.injEq, and_true] at e; obtain ⟨rfl, rfl, rfl, rfl, rfl⟩ := e; rw [hm] at h; cases h)]
              exact rb_may l hl w x y z u p hns hx hy hz hu hm
            | true =>
              by_cases he : btxt (ad x y z u) p = l
              · have : parB l = some (ad x y z u, p) := by rw [← he]; exact parB_btxt (ad_lt hx hy hz hu) hm
                rw [this]
                exact rb_eq l hl w x y z u p hns hx hy hz hu hm he
              · rw [none_of (fun x' y' z' u' p' e _ _ _ _ _ h => by rw [hns] at e; simp only [List.cons.injEq, and_true] at e; obtain ⟨rfl, rfl, rfl, rfl, rfl⟩ := e; exact he h.symm)]
                exact rb_ne l hl w x y z u p hns hx hy hz hu hm he
          · rw [none_of (fun x' y' z' u' p' e _ _ _ h _ _ => by rw [hns] at e; simp only [List.cons.injEq, and_true] at e; omega)]
            exact rb_bad3 l hl w x y z u p hns hx hy hz (by omega)
        · rw [none_of (fun x' y' z' u' p' e _ _ h _ _ _ => by rw [hns] at e; simp only [List.cons.injEq, and_true] at e; omega)]
          exact rb_bad2 l hl w x y z u p hns hx hy (by omega)
      · rw [none_of (fun x' y' z' u' p' e _ h _ _ _ _ => by rw [hns] at e; simp only [List.cons.injEq, and_true] at e; omega)]
        exact rb_bad1 l hl w x y z u p hns hx (by omega)
    · rw [none_of (fun x' y' z' u' p' e h _ _ _ _ _ => by rw [hns] at e; simp only [List.cons.injEq, and_true] at e; omega)]
      exact rb_bad0 l hl w x y z u p hns (by omega)
  | [] => exact absurd (numsF_pos l 0) (by rw [hns]; simp)
  | [_] =>
    rw [none_of (fun x' y' z' u' p' e _ _ _ _ _ _ => by rw [hns] at e; simp at e)]
    exact rb_len l hl w 1 (by rw [hns]; rfl) (by omega)
  | [_, _] =>
    rw [none_of (fun x' y' z' u' p' e _ _ _ _ _ _ => by rw [hns] at e; simp at e)]
    exact rb_len l hl w 2 (by rw [hns]; rfl) (by omega)
  | [_, _, _] =>
    rw [none_of (fun x' y' z' u' p' e _ _ _ _ _ _ => by rw [hns] at e; simp at e)]
    exact rb_len l hl w 3 (by rw [hns]; rfl) (by omega)
  | [_, _, _, _] =>
    rw [none_of (fun x' y' z' u' p' e _ _ _ _ _ _ => by rw [hns] at e; simp at e)]
    exact rb_len l hl w 4 (by rw [hns]; rfl) (by omega)
  | _ :: _ :: _ :: _ :: _ :: _ :: r =>
    rw [none_of (fun x' y' z' u' p' e _ _ _ _ _ _ => by rw [hns] at e; simp at e)]
    exact rb_len l hl w (r.length + 6) (by rw [hns]; rfl) (by omega)
end Go.Proofs.YtemchifjibkdfaaDoor
