/-
  The walk of the law AddrBack: for every two addresses, block and text it answers true. Conditions: the variables of the library as the program's text lays them.
-/
import Derived.Test.YtemchifjibkdfaaDoorAddrAwake
namespace Go.Proofs.YtemchifjibkdfaaDoor.addrBack
open Go.RowKit
theorem not_both {l : List UInt8} {y : Nat} (h : par l = some y) : parB l = none := by
  cases hB : parB l with
  | none => rfl
  | some ap =>
    obtain ⟨_, _, h3⟩ := parB_inv (a := ap.1) (p := ap.2) hB
    rw [h3, par_btxt] at h
    cases h
theorem mayB0 : mayB 0 0 = false := by decide
theorem txt_beq {a b : Nat} (ha : a < 4294967296) (hb : b < 4294967296) : (txt a == txt b) = ((a : Int) == (b : Int)) := by
  rw [Bool.eq_iff_iff, beq_iff_eq, beq_iff_eq]
  exact ⟨fun h => by rw [txt_inj ha hb h], fun h => by rw [show a = b by omega]⟩

set_option maxRecDepth 100000 in
set_option maxHeartbeats 2000000 in
theorem w_true_nn (a b c : Nat) (p : Int) (l : List UInt8) (ha : a < 4294967296) (hb : b < 4294967296) (hc : c < 4294967296) (hl : l.length ≤ 200) (hm : mayB c p = true) (hP : par l = none) (hB : parB l = none) (w : World) (hw : Laid w) :
    Calls Tryd.prog 4 #[.int .u32 a, .int .u32 b, .agg #[.int .u32 c, .int .i64 p], S l] w fun e w' => e = .returned (.bool true) ∧ Below w.heap.size w w' := by
  have T := fun x (hx : x < 4294967296) w2 h => Lib.hid (text_any x hx w2 h)
  have hal := txt_len a
  have Pa : ∀ w2, Hid (Calls Tryd.prog 11 #[S (txt a)] w2 fun e w' => e = .returned (.tuple #[.int .u32 a, .int .i64 0]) ∧ Below w2.heap.size w2 w') := fun w2 => by
    have := parse_any (txt a) (by omega) w2
    rw [par_txt ha] at this
    exact this
  have hT := txt_beq ha hb
  have Pc := fun w2 h => Lib.hid (btext_any c hc p w2 h)
  rw [hm] at Pc
  have hlen : decide ((200 : Int) < (l.length : Int)) = false := by simp; omega
  have G := Lib.hid (B2.new w (.int .u32 c) (.int .i64 p))
  have L0 := below_alloc w (.cells #[.int .u32 c, .int .i64 p] 24)
  have Ps : ∀ w2, Hid (Calls Tryd.prog 11 #[S l] w2 fun e w' => e = .returned (.tuple #[.int .u32 0, .int .i64 2]) ∧ Below w2.heap.size w2 w') := fun w2 => by
    have := parse_any l (by omega) w2
    rw [hP] at this
    exact this
  have Bs : ∀ w2 (h : Laid w2), Hid (Calls Tryd.prog 13 #[S l] w2 fun e w' => e = .returned (.tuple #[.agg #[.int .u32 0, .int .i64 0], .int .i64 2]) ∧ Below w2.heap.size w2 w') := fun w2 h => by
    have := pblock_any l (by omega) w2 h
    rw [hB] at this
    exact this
  obtain ⟨h16, h32⟩ := mayB_rng hm
  obtain ⟨P, rfl⟩ : ∃ P : Nat, p = P := ⟨p.toNat, by omega⟩
  have hbl := btxt_len c P
  have Bc : ∀ w2 (h : Laid w2), Hid (Calls Tryd.prog 13 #[S (btxt c P)] w2 fun e w' => e = .returned (.tuple #[.agg #[.int .u32 c, .int .i64 P], .int .i64 0]) ∧ Below w2.heap.size w2 w') := fun w2 h => by
    have := pblock_any (btxt c P) (by omega) w2 h
    rw [parB_btxt hc hm] at this
    exact this
  have Pb : ∀ w2, Hid (Calls Tryd.prog 11 #[S (btxt c P)] w2 fun e w' => e = .returned (.tuple #[.int .u32 0, .int .i64 2]) ∧ Below w2.heap.size w2 w') := fun w2 => by
    have := parse_any (btxt c P) (by omega) w2
    rw [par_btxt] at this
    exact this
  simp only [if_true, Int.toNat_natCast] at Pc
  have Bz : ∀ w2 (h : Laid w2), Hid (Calls Tryd.prog 9 #[.agg #[.int .u32 0, .int .i64 0]] w2 fun e w' => e = .returned (.tuple #[S [], .int .i64 2]) ∧ Below w2.heap.size w2 w') := fun w2 h => by
    have := btext_any 0 (by omega) 0 w2 h
    rw [mayB0] at this
    exact this
  clear hP hB
  go_enter Tryd.func4, Tryd.ntmps4
  go_wp2_with fail
  refine (awake_any _ (hw.below L0)).mono ?_
  rintro e w1 ⟨rfl, K1⟩
  replace G := Lib.hid (G.out.below K1)
  replace K1 := Below.then_ L0 K1
  clear L0
  go_wp2_with fail
  refine ((T a ha _ (hw.below K1)).out).mono ?_
  rintro e w2 ⟨rfl, K2⟩
  replace G := Lib.hid (G.out.below K2)
  replace K2 := Below.then_ K1 K2
  clear K1
  go_wp2_with fail
  refine ((Pa _).out).mono ?_
  rintro e w3 ⟨rfl, K3⟩
  replace G := Lib.hid (G.out.below K3)
  replace K3 := Below.then_ K2 K3
  clear K2
  go_wp2_with fail
  refine ((T a ha _ (hw.below K3)).out).mono ?_
  rintro e w4 ⟨rfl, K4⟩
  replace G := Lib.hid (G.out.below K4)
  replace K4 := Below.then_ K3 K4
  clear K3
  go_wp2_with fail
  refine ((T b hb _ (hw.below K4)).out).mono ?_
  rintro e w5 ⟨rfl, K5⟩
  replace G := Lib.hid (G.out.below K5)
  replace K5 := Below.then_ K4 K5
  clear K4
  have g0 := G.out.c0
  have g1 := G.out.c1
  go_wp2_with fail
  refine ((Pc _ (hw.below K5)).out).mono ?_
  rintro e w6 ⟨rfl, K6⟩
  replace G := Lib.hid (G.out.below K6)
  replace K6 := Below.then_ K5 K6
  clear K5
  clear g0 g1
  go_wp2_with fail
  refine ((Bc _ (hw.below K6)).out).mono ?_
  rintro e w7 ⟨rfl, K7⟩
  replace G := Lib.hid (G.out.below K7)
  replace K7 := Below.then_ K6 K7
  clear K6
  have N := Lib.hid (B2.new w7 (.int .u32 c) (.int .i64 P))
  replace G := Lib.hid (G.out.alloc (.cells #[.int .u32 c, .int .i64 P] 24))
  replace K7 := Below.then_ K7 (below_alloc w7 (.cells #[.int .u32 c, .int .i64 P] 24))
  go_wp2_with fail
  refine ((Pb _).out).mono ?_
  rintro e w8 ⟨rfl, K8⟩
  replace N := Lib.hid (N.out.below K8)
  replace G := Lib.hid (G.out.below K8)
  replace K8 := Below.then_ K7 K8
  clear K7
  have g0 := G.out.c0
  have g1 := G.out.c1
  have b0 := N.out.c0
  have b1 := N.out.c1
  go_wp2_with fail
  refine ((Ps _).out).mono ?_
  rintro e w9 ⟨rfl, K9⟩
  replace G := Lib.hid (G.out.below K9)
  replace K9 := Below.then_ K8 K9
  clear K8
  clear g0 g1 b0 b1 N
  go_wp2_with fail
  refine ((Bs _ (hw.below K9)).out).mono ?_
  rintro e w10 ⟨rfl, K10⟩
  replace G := Lib.hid (G.out.below K10)
  replace K10 := Below.then_ K9 K10
  clear K9
  have N := Lib.hid (B2.new w10 (.int .u32 0) (.int .i64 0))
  replace G := Lib.hid (G.out.alloc (.cells #[.int .u32 0, .int .i64 0] 24))
  replace K10 := Below.then_ K10 (below_alloc w10 (.cells #[.int .u32 0, .int .i64 0] 24))
  have n0 := N.out.c0
  have n1 := N.out.c1
  go_wp2_with fail
  refine ((Bz _ (hw.below K10)).out).mono ?_
  rintro e w11 ⟨rfl, K11⟩
  replace G := Lib.hid (G.out.below K11)
  replace K11 := Below.then_ K10 K11
  clear K10
  clear n0 n1 N
  go_wp2
  go_ret
  exact ⟨rfl, K11⟩
set_option maxRecDepth 100000 in
set_option maxHeartbeats 2000000 in
theorem w_true_ns (a b c : Nat) (p : Int) (l : List UInt8) (ha : a < 4294967296) (hb : b < 4294967296) (hc : c < 4294967296) (hl : l.length ≤ 200) (hm : mayB c p = true) (y q : Nat) (hP : par l = none) (hB : parB l = some (y, q)) (w : World) (hw : Laid w) :
    Calls Tryd.prog 4 #[.int .u32 a, .int .u32 b, .agg #[.int .u32 c, .int .i64 p], S l] w fun e w' => e = .returned (.bool true) ∧ Below w.heap.size w w' := by
  have T := fun x (hx : x < 4294967296) w2 h => Lib.hid (text_any x hx w2 h)
  have hal := txt_len a
  have Pa : ∀ w2, Hid (Calls Tryd.prog 11 #[S (txt a)] w2 fun e w' => e = .returned (.tuple #[.int .u32 a, .int .i64 0]) ∧ Below w2.heap.size w2 w') := fun w2 => by
    have := parse_any (txt a) (by omega) w2
    rw [par_txt ha] at this
    exact this
  have hT := txt_beq ha hb
  have Pc := fun w2 h => Lib.hid (btext_any c hc p w2 h)
  rw [hm] at Pc
  have hlen : decide ((200 : Int) < (l.length : Int)) = false := by simp; omega
  have G := Lib.hid (B2.new w (.int .u32 c) (.int .i64 p))
  have L0 := below_alloc w (.cells #[.int .u32 c, .int .i64 p] 24)
  have Ps : ∀ w2, Hid (Calls Tryd.prog 11 #[S l] w2 fun e w' => e = .returned (.tuple #[.int .u32 0, .int .i64 2]) ∧ Below w2.heap.size w2 w') := fun w2 => by
    have := parse_any l (by omega) w2
    rw [hP] at this
    exact this
  have Bs : ∀ w2 (h : Laid w2), Hid (Calls Tryd.prog 13 #[S l] w2 fun e w' => e = .returned (.tuple #[.agg #[.int .u32 y, .int .i64 q], .int .i64 0]) ∧ Below w2.heap.size w2 w') := fun w2 h => by
    have := pblock_any l (by omega) w2 h
    rw [hB] at this
    exact this
  obtain ⟨h16, h32⟩ := mayB_rng hm
  obtain ⟨P, rfl⟩ : ∃ P : Nat, p = P := ⟨p.toNat, by omega⟩
  have hbl := btxt_len c P
  have Bc : ∀ w2 (h : Laid w2), Hid (Calls Tryd.prog 13 #[S (btxt c P)] w2 fun e w' => e = .returned (.tuple #[.agg #[.int .u32 c, .int .i64 P], .int .i64 0]) ∧ Below w2.heap.size w2 w') := fun w2 h => by
    have := pblock_any (btxt c P) (by omega) w2 h
    rw [parB_btxt hc hm] at this
    exact this
  have Pb : ∀ w2, Hid (Calls Tryd.prog 11 #[S (btxt c P)] w2 fun e w' => e = .returned (.tuple #[.int .u32 0, .int .i64 2]) ∧ Below w2.heap.size w2 w') := fun w2 => by
    have := parse_any (btxt c P) (by omega) w2
    rw [par_btxt] at this
    exact this
  simp only [if_true, Int.toNat_natCast] at Pc
  obtain ⟨hy, hmy, hly⟩ := parB_inv hB
  have Bz := fun w2 h => Lib.hid (btext_any y hy q w2 h)
  rw [hmy] at Bz
  simp only [if_true, Int.toNat_natCast, ← hly] at Bz
  clear hly
  clear hP hB
  go_enter Tryd.func4, Tryd.ntmps4
  go_wp2_with fail
  refine (awake_any _ (hw.below L0)).mono ?_
  rintro e w1 ⟨rfl, K1⟩
  replace G := Lib.hid (G.out.below K1)
  replace K1 := Below.then_ L0 K1
  clear L0
  go_wp2_with fail
  refine ((T a ha _ (hw.below K1)).out).mono ?_
  rintro e w2 ⟨rfl, K2⟩
  replace G := Lib.hid (G.out.below K2)
  replace K2 := Below.then_ K1 K2
  clear K1
  go_wp2_with fail
  refine ((Pa _).out).mono ?_
  rintro e w3 ⟨rfl, K3⟩
  replace G := Lib.hid (G.out.below K3)
  replace K3 := Below.then_ K2 K3
  clear K2
  go_wp2_with fail
  refine ((T a ha _ (hw.below K3)).out).mono ?_
  rintro e w4 ⟨rfl, K4⟩
  replace G := Lib.hid (G.out.below K4)
  replace K4 := Below.then_ K3 K4
  clear K3
  go_wp2_with fail
  refine ((T b hb _ (hw.below K4)).out).mono ?_
  rintro e w5 ⟨rfl, K5⟩
  replace G := Lib.hid (G.out.below K5)
  replace K5 := Below.then_ K4 K5
  clear K4
  have g0 := G.out.c0
  have g1 := G.out.c1
  go_wp2_with fail
  refine ((Pc _ (hw.below K5)).out).mono ?_
  rintro e w6 ⟨rfl, K6⟩
  replace G := Lib.hid (G.out.below K6)
  replace K6 := Below.then_ K5 K6
  clear K5
  clear g0 g1
  go_wp2_with fail
  refine ((Bc _ (hw.below K6)).out).mono ?_
  rintro e w7 ⟨rfl, K7⟩
  replace G := Lib.hid (G.out.below K7)
  replace K7 := Below.then_ K6 K7
  clear K6
  have N := Lib.hid (B2.new w7 (.int .u32 c) (.int .i64 P))
  replace G := Lib.hid (G.out.alloc (.cells #[.int .u32 c, .int .i64 P] 24))
  replace K7 := Below.then_ K7 (below_alloc w7 (.cells #[.int .u32 c, .int .i64 P] 24))
  go_wp2_with fail
  refine ((Pb _).out).mono ?_
  rintro e w8 ⟨rfl, K8⟩
  replace N := Lib.hid (N.out.below K8)
  replace G := Lib.hid (G.out.below K8)
  replace K8 := Below.then_ K7 K8
  clear K7
  have g0 := G.out.c0
  have g1 := G.out.c1
  have b0 := N.out.c0
  have b1 := N.out.c1
  go_wp2_with fail
  refine ((Ps _).out).mono ?_
  rintro e w9 ⟨rfl, K9⟩
  replace G := Lib.hid (G.out.below K9)
  replace K9 := Below.then_ K8 K9
  clear K8
  clear g0 g1 b0 b1 N
  go_wp2_with fail
  refine ((Bs _ (hw.below K9)).out).mono ?_
  rintro e w10 ⟨rfl, K10⟩
  replace G := Lib.hid (G.out.below K10)
  replace K10 := Below.then_ K9 K10
  clear K9
  have N := Lib.hid (B2.new w10 (.int .u32 y) (.int .i64 q))
  replace G := Lib.hid (G.out.alloc (.cells #[.int .u32 y, .int .i64 q] 24))
  replace K10 := Below.then_ K10 (below_alloc w10 (.cells #[.int .u32 y, .int .i64 q] 24))
  have n0 := N.out.c0
  have n1 := N.out.c1
  go_wp2_with fail
  refine ((Bz _ (hw.below K10)).out).mono ?_
  rintro e w11 ⟨rfl, K11⟩
  replace G := Lib.hid (G.out.below K11)
  replace K11 := Below.then_ K10 K11
  clear K10
  clear n0 n1 N
  go_wp2
  go_ret
  exact ⟨rfl, K11⟩
set_option maxRecDepth 100000 in
set_option maxHeartbeats 2000000 in
theorem w_true_sn (a b c : Nat) (p : Int) (l : List UInt8) (ha : a < 4294967296) (hb : b < 4294967296) (hc : c < 4294967296) (hl : l.length ≤ 200) (hm : mayB c p = true) (y : Nat) (hP : par l = some y) (hB : parB l = none) (w : World) (hw : Laid w) :
    Calls Tryd.prog 4 #[.int .u32 a, .int .u32 b, .agg #[.int .u32 c, .int .i64 p], S l] w fun e w' => e = .returned (.bool true) ∧ Below w.heap.size w w' := by
  have T := fun x (hx : x < 4294967296) w2 h => Lib.hid (text_any x hx w2 h)
  have hal := txt_len a
  have Pa : ∀ w2, Hid (Calls Tryd.prog 11 #[S (txt a)] w2 fun e w' => e = .returned (.tuple #[.int .u32 a, .int .i64 0]) ∧ Below w2.heap.size w2 w') := fun w2 => by
    have := parse_any (txt a) (by omega) w2
    rw [par_txt ha] at this
    exact this
  have hT := txt_beq ha hb
  have Pc := fun w2 h => Lib.hid (btext_any c hc p w2 h)
  rw [hm] at Pc
  have hlen : decide ((200 : Int) < (l.length : Int)) = false := by simp; omega
  have G := Lib.hid (B2.new w (.int .u32 c) (.int .i64 p))
  have L0 := below_alloc w (.cells #[.int .u32 c, .int .i64 p] 24)
  have Ps : ∀ w2, Hid (Calls Tryd.prog 11 #[S l] w2 fun e w' => e = .returned (.tuple #[.int .u32 y, .int .i64 0]) ∧ Below w2.heap.size w2 w') := fun w2 => by
    have := parse_any l (by omega) w2
    rw [hP] at this
    exact this
  have Bs : ∀ w2 (h : Laid w2), Hid (Calls Tryd.prog 13 #[S l] w2 fun e w' => e = .returned (.tuple #[.agg #[.int .u32 0, .int .i64 0], .int .i64 2]) ∧ Below w2.heap.size w2 w') := fun w2 h => by
    have := pblock_any l (by omega) w2 h
    rw [hB] at this
    exact this
  obtain ⟨h16, h32⟩ := mayB_rng hm
  obtain ⟨P, rfl⟩ : ∃ P : Nat, p = P := ⟨p.toNat, by omega⟩
  have hbl := btxt_len c P
  have Bc : ∀ w2 (h : Laid w2), Hid (Calls Tryd.prog 13 #[S (btxt c P)] w2 fun e w' => e = .returned (.tuple #[.agg #[.int .u32 c, .int .i64 P], .int .i64 0]) ∧ Below w2.heap.size w2 w') := fun w2 h => by
    have := pblock_any (btxt c P) (by omega) w2 h
    rw [parB_btxt hc hm] at this
    exact this
  have Pb : ∀ w2, Hid (Calls Tryd.prog 11 #[S (btxt c P)] w2 fun e w' => e = .returned (.tuple #[.int .u32 0, .int .i64 2]) ∧ Below w2.heap.size w2 w') := fun w2 => by
    have := parse_any (btxt c P) (by omega) w2
    rw [par_btxt] at this
    exact this
  simp only [if_true, Int.toNat_natCast] at Pc
  have Bz : ∀ w2 (h : Laid w2), Hid (Calls Tryd.prog 9 #[.agg #[.int .u32 0, .int .i64 0]] w2 fun e w' => e = .returned (.tuple #[S [], .int .i64 2]) ∧ Below w2.heap.size w2 w') := fun w2 h => by
    have := btext_any 0 (by omega) 0 w2 h
    rw [mayB0] at this
    exact this
  obtain ⟨hy, hly⟩ := par_inv hP
  have Ty := fun w2 h => Lib.hid (text_any y hy w2 h)
  rw [← hly] at Ty
  clear hly
  clear hP hB
  go_enter Tryd.func4, Tryd.ntmps4
  go_wp2_with fail
  refine (awake_any _ (hw.below L0)).mono ?_
  rintro e w1 ⟨rfl, K1⟩
  replace G := Lib.hid (G.out.below K1)
  replace K1 := Below.then_ L0 K1
  clear L0
  go_wp2_with fail
  refine ((T a ha _ (hw.below K1)).out).mono ?_
  rintro e w2 ⟨rfl, K2⟩
  replace G := Lib.hid (G.out.below K2)
  replace K2 := Below.then_ K1 K2
  clear K1
  go_wp2_with fail
  refine ((Pa _).out).mono ?_
  rintro e w3 ⟨rfl, K3⟩
  replace G := Lib.hid (G.out.below K3)
  replace K3 := Below.then_ K2 K3
  clear K2
  go_wp2_with fail
  refine ((T a ha _ (hw.below K3)).out).mono ?_
  rintro e w4 ⟨rfl, K4⟩
  replace G := Lib.hid (G.out.below K4)
  replace K4 := Below.then_ K3 K4
  clear K3
  go_wp2_with fail
  refine ((T b hb _ (hw.below K4)).out).mono ?_
  rintro e w5 ⟨rfl, K5⟩
  replace G := Lib.hid (G.out.below K5)
  replace K5 := Below.then_ K4 K5
  clear K4
  have g0 := G.out.c0
  have g1 := G.out.c1
  go_wp2_with fail
  refine ((Pc _ (hw.below K5)).out).mono ?_
  rintro e w6 ⟨rfl, K6⟩
  replace G := Lib.hid (G.out.below K6)
  replace K6 := Below.then_ K5 K6
  clear K5
  clear g0 g1
  go_wp2_with fail
  refine ((Bc _ (hw.below K6)).out).mono ?_
  rintro e w7 ⟨rfl, K7⟩
  replace G := Lib.hid (G.out.below K7)
  replace K7 := Below.then_ K6 K7
  clear K6
  have N := Lib.hid (B2.new w7 (.int .u32 c) (.int .i64 P))
  replace G := Lib.hid (G.out.alloc (.cells #[.int .u32 c, .int .i64 P] 24))
  replace K7 := Below.then_ K7 (below_alloc w7 (.cells #[.int .u32 c, .int .i64 P] 24))
  go_wp2_with fail
  refine ((Pb _).out).mono ?_
  rintro e w8 ⟨rfl, K8⟩
  replace N := Lib.hid (N.out.below K8)
  replace G := Lib.hid (G.out.below K8)
  replace K8 := Below.then_ K7 K8
  clear K7
  have g0 := G.out.c0
  have g1 := G.out.c1
  have b0 := N.out.c0
  have b1 := N.out.c1
  go_wp2_with fail
  refine ((Ps _).out).mono ?_
  rintro e w9 ⟨rfl, K9⟩
  replace G := Lib.hid (G.out.below K9)
  replace K9 := Below.then_ K8 K9
  clear K8
  clear g0 g1 b0 b1 N
  go_wp2_with fail
  refine ((Bs _ (hw.below K9)).out).mono ?_
  rintro e w10 ⟨rfl, K10⟩
  replace G := Lib.hid (G.out.below K10)
  replace K10 := Below.then_ K9 K10
  clear K9
  have N := Lib.hid (B2.new w10 (.int .u32 0) (.int .i64 0))
  replace G := Lib.hid (G.out.alloc (.cells #[.int .u32 0, .int .i64 0] 24))
  replace K10 := Below.then_ K10 (below_alloc w10 (.cells #[.int .u32 0, .int .i64 0] 24))
  have n0 := N.out.c0
  have n1 := N.out.c1
  go_wp2_with fail
  refine ((Bz _ (hw.below K10)).out).mono ?_
  rintro e w11 ⟨rfl, K11⟩
  replace G := Lib.hid (G.out.below K11)
  replace K11 := Below.then_ K10 K11
  clear K10
  clear n0 n1 N
  go_wp2_with fail
  refine ((Ty _ (hw.below K11)).out).mono ?_
  rintro e w12 ⟨rfl, K12⟩
  replace G := Lib.hid (G.out.below K12)
  replace K12 := Below.then_ K11 K12
  clear K11
  go_wp2
  go_ret
  exact ⟨rfl, K12⟩
set_option maxRecDepth 100000 in
set_option maxHeartbeats 2000000 in
theorem w_false_nn (a b c : Nat) (p : Int) (l : List UInt8) (ha : a < 4294967296) (hb : b < 4294967296) (hc : c < 4294967296) (hl : l.length ≤ 200) (hm : mayB c p = false) (hP : par l = none) (hB : parB l = none) (w : World) (hw : Laid w) :
    Calls Tryd.prog 4 #[.int .u32 a, .int .u32 b, .agg #[.int .u32 c, .int .i64 p], S l] w fun e w' => e = .returned (.bool true) ∧ Below w.heap.size w w' := by
  have T := fun x (hx : x < 4294967296) w2 h => Lib.hid (text_any x hx w2 h)
  have hal := txt_len a
  have Pa : ∀ w2, Hid (Calls Tryd.prog 11 #[S (txt a)] w2 fun e w' => e = .returned (.tuple #[.int .u32 a, .int .i64 0]) ∧ Below w2.heap.size w2 w') := fun w2 => by
    have := parse_any (txt a) (by omega) w2
    rw [par_txt ha] at this
    exact this
  have hT := txt_beq ha hb
  have Pc := fun w2 h => Lib.hid (btext_any c hc p w2 h)
  rw [hm] at Pc
  have hlen : decide ((200 : Int) < (l.length : Int)) = false := by simp; omega
  have G := Lib.hid (B2.new w (.int .u32 c) (.int .i64 p))
  have L0 := below_alloc w (.cells #[.int .u32 c, .int .i64 p] 24)
  have Ps : ∀ w2, Hid (Calls Tryd.prog 11 #[S l] w2 fun e w' => e = .returned (.tuple #[.int .u32 0, .int .i64 2]) ∧ Below w2.heap.size w2 w') := fun w2 => by
    have := parse_any l (by omega) w2
    rw [hP] at this
    exact this
  have Bs : ∀ w2 (h : Laid w2), Hid (Calls Tryd.prog 13 #[S l] w2 fun e w' => e = .returned (.tuple #[.agg #[.int .u32 0, .int .i64 0], .int .i64 2]) ∧ Below w2.heap.size w2 w') := fun w2 h => by
    have := pblock_any l (by omega) w2 h
    rw [hB] at this
    exact this
  have Bz : ∀ w2 (h : Laid w2), Hid (Calls Tryd.prog 9 #[.agg #[.int .u32 0, .int .i64 0]] w2 fun e w' => e = .returned (.tuple #[S [], .int .i64 2]) ∧ Below w2.heap.size w2 w') := fun w2 h => by
    have := btext_any 0 (by omega) 0 w2 h
    rw [mayB0] at this
    exact this
  clear hP hB
  go_enter Tryd.func4, Tryd.ntmps4
  go_wp2_with fail
  refine (awake_any _ (hw.below L0)).mono ?_
  rintro e w1 ⟨rfl, K1⟩
  replace G := Lib.hid (G.out.below K1)
  replace K1 := Below.then_ L0 K1
  clear L0
  go_wp2_with fail
  refine ((T a ha _ (hw.below K1)).out).mono ?_
  rintro e w2 ⟨rfl, K2⟩
  replace G := Lib.hid (G.out.below K2)
  replace K2 := Below.then_ K1 K2
  clear K1
  go_wp2_with fail
  refine ((Pa _).out).mono ?_
  rintro e w3 ⟨rfl, K3⟩
  replace G := Lib.hid (G.out.below K3)
  replace K3 := Below.then_ K2 K3
  clear K2
  go_wp2_with fail
  refine ((T a ha _ (hw.below K3)).out).mono ?_
  rintro e w4 ⟨rfl, K4⟩
  replace G := Lib.hid (G.out.below K4)
  replace K4 := Below.then_ K3 K4
  clear K3
  go_wp2_with fail
  refine ((T b hb _ (hw.below K4)).out).mono ?_
  rintro e w5 ⟨rfl, K5⟩
  replace G := Lib.hid (G.out.below K5)
  replace K5 := Below.then_ K4 K5
  clear K4
  have g0 := G.out.c0
  have g1 := G.out.c1
  go_wp2_with fail
  refine ((Pc _ (hw.below K5)).out).mono ?_
  rintro e w6 ⟨rfl, K6⟩
  replace G := Lib.hid (G.out.below K6)
  replace K6 := Below.then_ K5 K6
  clear K5
  clear g0 g1
  go_wp2_with fail
  refine ((Ps _).out).mono ?_
  rintro e w7 ⟨rfl, K7⟩
  replace G := Lib.hid (G.out.below K7)
  replace K7 := Below.then_ K6 K7
  clear K6
  go_wp2_with fail
  refine ((Bs _ (hw.below K7)).out).mono ?_
  rintro e w8 ⟨rfl, K8⟩
  replace G := Lib.hid (G.out.below K8)
  replace K8 := Below.then_ K7 K8
  clear K7
  have N := Lib.hid (B2.new w8 (.int .u32 0) (.int .i64 0))
  replace G := Lib.hid (G.out.alloc (.cells #[.int .u32 0, .int .i64 0] 24))
  replace K8 := Below.then_ K8 (below_alloc w8 (.cells #[.int .u32 0, .int .i64 0] 24))
  have n0 := N.out.c0
  have n1 := N.out.c1
  go_wp2_with fail
  refine ((Bz _ (hw.below K8)).out).mono ?_
  rintro e w9 ⟨rfl, K9⟩
  replace G := Lib.hid (G.out.below K9)
  replace K9 := Below.then_ K8 K9
  clear K8
  clear n0 n1 N
  go_wp2
  go_ret
  exact ⟨rfl, K9⟩
set_option maxRecDepth 100000 in
set_option maxHeartbeats 2000000 in
theorem w_false_ns (a b c : Nat) (p : Int) (l : List UInt8) (ha : a < 4294967296) (hb : b < 4294967296) (hc : c < 4294967296) (hl : l.length ≤ 200) (hm : mayB c p = false) (y q : Nat) (hP : par l = none) (hB : parB l = some (y, q)) (w : World) (hw : Laid w) :
    Calls Tryd.prog 4 #[.int .u32 a, .int .u32 b, .agg #[.int .u32 c, .int .i64 p], S l] w fun e w' => e = .returned (.bool true) ∧ Below w.heap.size w w' := by
  have T := fun x (hx : x < 4294967296) w2 h => Lib.hid (text_any x hx w2 h)
  have hal := txt_len a
  have Pa : ∀ w2, Hid (Calls Tryd.prog 11 #[S (txt a)] w2 fun e w' => e = .returned (.tuple #[.int .u32 a, .int .i64 0]) ∧ Below w2.heap.size w2 w') := fun w2 => by
    have := parse_any (txt a) (by omega) w2
    rw [par_txt ha] at this
    exact this
  have hT := txt_beq ha hb
  have Pc := fun w2 h => Lib.hid (btext_any c hc p w2 h)
  rw [hm] at Pc
  have hlen : decide ((200 : Int) < (l.length : Int)) = false := by simp; omega
  have G := Lib.hid (B2.new w (.int .u32 c) (.int .i64 p))
  have L0 := below_alloc w (.cells #[.int .u32 c, .int .i64 p] 24)
  have Ps : ∀ w2, Hid (Calls Tryd.prog 11 #[S l] w2 fun e w' => e = .returned (.tuple #[.int .u32 0, .int .i64 2]) ∧ Below w2.heap.size w2 w') := fun w2 => by
    have := parse_any l (by omega) w2
    rw [hP] at this
    exact this
  have Bs : ∀ w2 (h : Laid w2), Hid (Calls Tryd.prog 13 #[S l] w2 fun e w' => e = .returned (.tuple #[.agg #[.int .u32 y, .int .i64 q], .int .i64 0]) ∧ Below w2.heap.size w2 w') := fun w2 h => by
    have := pblock_any l (by omega) w2 h
    rw [hB] at this
    exact this
  obtain ⟨hy, hmy, hly⟩ := parB_inv hB
  have Bz := fun w2 h => Lib.hid (btext_any y hy q w2 h)
  rw [hmy] at Bz
  simp only [if_true, Int.toNat_natCast, ← hly] at Bz
  clear hly
  clear hP hB
  go_enter Tryd.func4, Tryd.ntmps4
  go_wp2_with fail
  refine (awake_any _ (hw.below L0)).mono ?_
  rintro e w1 ⟨rfl, K1⟩
  replace G := Lib.hid (G.out.below K1)
  replace K1 := Below.then_ L0 K1
  clear L0
  go_wp2_with fail
  refine ((T a ha _ (hw.below K1)).out).mono ?_
  rintro e w2 ⟨rfl, K2⟩
  replace G := Lib.hid (G.out.below K2)
  replace K2 := Below.then_ K1 K2
  clear K1
  go_wp2_with fail
  refine ((Pa _).out).mono ?_
  rintro e w3 ⟨rfl, K3⟩
  replace G := Lib.hid (G.out.below K3)
  replace K3 := Below.then_ K2 K3
  clear K2
  go_wp2_with fail
  refine ((T a ha _ (hw.below K3)).out).mono ?_
  rintro e w4 ⟨rfl, K4⟩
  replace G := Lib.hid (G.out.below K4)
  replace K4 := Below.then_ K3 K4
  clear K3
  go_wp2_with fail
  refine ((T b hb _ (hw.below K4)).out).mono ?_
  rintro e w5 ⟨rfl, K5⟩
  replace G := Lib.hid (G.out.below K5)
  replace K5 := Below.then_ K4 K5
  clear K4
  have g0 := G.out.c0
  have g1 := G.out.c1
  go_wp2_with fail
  refine ((Pc _ (hw.below K5)).out).mono ?_
  rintro e w6 ⟨rfl, K6⟩
  replace G := Lib.hid (G.out.below K6)
  replace K6 := Below.then_ K5 K6
  clear K5
  clear g0 g1
  go_wp2_with fail
  refine ((Ps _).out).mono ?_
  rintro e w7 ⟨rfl, K7⟩
  replace G := Lib.hid (G.out.below K7)
  replace K7 := Below.then_ K6 K7
  clear K6
  go_wp2_with fail
  refine ((Bs _ (hw.below K7)).out).mono ?_
  rintro e w8 ⟨rfl, K8⟩
  replace G := Lib.hid (G.out.below K8)
  replace K8 := Below.then_ K7 K8
  clear K7
  have N := Lib.hid (B2.new w8 (.int .u32 y) (.int .i64 q))
  replace G := Lib.hid (G.out.alloc (.cells #[.int .u32 y, .int .i64 q] 24))
  replace K8 := Below.then_ K8 (below_alloc w8 (.cells #[.int .u32 y, .int .i64 q] 24))
  have n0 := N.out.c0
  have n1 := N.out.c1
  go_wp2_with fail
  refine ((Bz _ (hw.below K8)).out).mono ?_
  rintro e w9 ⟨rfl, K9⟩
  replace G := Lib.hid (G.out.below K9)
  replace K9 := Below.then_ K8 K9
  clear K8
  clear n0 n1 N
  go_wp2
  go_ret
  exact ⟨rfl, K9⟩
set_option maxRecDepth 100000 in
set_option maxHeartbeats 2000000 in
theorem w_false_sn (a b c : Nat) (p : Int) (l : List UInt8) (ha : a < 4294967296) (hb : b < 4294967296) (hc : c < 4294967296) (hl : l.length ≤ 200) (hm : mayB c p = false) (y : Nat) (hP : par l = some y) (hB : parB l = none) (w : World) (hw : Laid w) :
    Calls Tryd.prog 4 #[.int .u32 a, .int .u32 b, .agg #[.int .u32 c, .int .i64 p], S l] w fun e w' => e = .returned (.bool true) ∧ Below w.heap.size w w' := by
  have T := fun x (hx : x < 4294967296) w2 h => Lib.hid (text_any x hx w2 h)
  have hal := txt_len a
  have Pa : ∀ w2, Hid (Calls Tryd.prog 11 #[S (txt a)] w2 fun e w' => e = .returned (.tuple #[.int .u32 a, .int .i64 0]) ∧ Below w2.heap.size w2 w') := fun w2 => by
    have := parse_any (txt a) (by omega) w2
    rw [par_txt ha] at this
    exact this
  have hT := txt_beq ha hb
  have Pc := fun w2 h => Lib.hid (btext_any c hc p w2 h)
  rw [hm] at Pc
  have hlen : decide ((200 : Int) < (l.length : Int)) = false := by simp; omega
  have G := Lib.hid (B2.new w (.int .u32 c) (.int .i64 p))
  have L0 := below_alloc w (.cells #[.int .u32 c, .int .i64 p] 24)
  have Ps : ∀ w2, Hid (Calls Tryd.prog 11 #[S l] w2 fun e w' => e = .returned (.tuple #[.int .u32 y, .int .i64 0]) ∧ Below w2.heap.size w2 w') := fun w2 => by
    have := parse_any l (by omega) w2
    rw [hP] at this
    exact this
  have Bs : ∀ w2 (h : Laid w2), Hid (Calls Tryd.prog 13 #[S l] w2 fun e w' => e = .returned (.tuple #[.agg #[.int .u32 0, .int .i64 0], .int .i64 2]) ∧ Below w2.heap.size w2 w') := fun w2 h => by
    have := pblock_any l (by omega) w2 h
    rw [hB] at this
    exact this
  have Bz : ∀ w2 (h : Laid w2), Hid (Calls Tryd.prog 9 #[.agg #[.int .u32 0, .int .i64 0]] w2 fun e w' => e = .returned (.tuple #[S [], .int .i64 2]) ∧ Below w2.heap.size w2 w') := fun w2 h => by
    have := btext_any 0 (by omega) 0 w2 h
    rw [mayB0] at this
    exact this
  obtain ⟨hy, hly⟩ := par_inv hP
  have Ty := fun w2 h => Lib.hid (text_any y hy w2 h)
  rw [← hly] at Ty
  clear hly
  clear hP hB
  go_enter Tryd.func4, Tryd.ntmps4
  go_wp2_with fail
  refine (awake_any _ (hw.below L0)).mono ?_
  rintro e w1 ⟨rfl, K1⟩
  replace G := Lib.hid (G.out.below K1)
  replace K1 := Below.then_ L0 K1
  clear L0
  go_wp2_with fail
  refine ((T a ha _ (hw.below K1)).out).mono ?_
  rintro e w2 ⟨rfl, K2⟩
  replace G := Lib.hid (G.out.below K2)
  replace K2 := Below.then_ K1 K2
  clear K1
  go_wp2_with fail
  refine ((Pa _).out).mono ?_
  rintro e w3 ⟨rfl, K3⟩
  replace G := Lib.hid (G.out.below K3)
  replace K3 := Below.then_ K2 K3
  clear K2
  go_wp2_with fail
  refine ((T a ha _ (hw.below K3)).out).mono ?_
  rintro e w4 ⟨rfl, K4⟩
  replace G := Lib.hid (G.out.below K4)
  replace K4 := Below.then_ K3 K4
  clear K3
  go_wp2_with fail
  refine ((T b hb _ (hw.below K4)).out).mono ?_
  rintro e w5 ⟨rfl, K5⟩
  replace G := Lib.hid (G.out.below K5)
  replace K5 := Below.then_ K4 K5
  clear K4
  have g0 := G.out.c0
  have g1 := G.out.c1
  go_wp2_with fail
  refine ((Pc _ (hw.below K5)).out).mono ?_
  rintro e w6 ⟨rfl, K6⟩
  replace G := Lib.hid (G.out.below K6)
  replace K6 := Below.then_ K5 K6
  clear K5
  clear g0 g1
  go_wp2_with fail
  refine ((Ps _).out).mono ?_
  rintro e w7 ⟨rfl, K7⟩
  replace G := Lib.hid (G.out.below K7)
  replace K7 := Below.then_ K6 K7
  clear K6
  go_wp2_with fail
  refine ((Bs _ (hw.below K7)).out).mono ?_
  rintro e w8 ⟨rfl, K8⟩
  replace G := Lib.hid (G.out.below K8)
  replace K8 := Below.then_ K7 K8
  clear K7
  have N := Lib.hid (B2.new w8 (.int .u32 0) (.int .i64 0))
  replace G := Lib.hid (G.out.alloc (.cells #[.int .u32 0, .int .i64 0] 24))
  replace K8 := Below.then_ K8 (below_alloc w8 (.cells #[.int .u32 0, .int .i64 0] 24))
  have n0 := N.out.c0
  have n1 := N.out.c1
  go_wp2_with fail
  refine ((Bz _ (hw.below K8)).out).mono ?_
  rintro e w9 ⟨rfl, K9⟩
  replace G := Lib.hid (G.out.below K9)
  replace K9 := Below.then_ K8 K9
  clear K8
  clear n0 n1 N
  go_wp2_with fail
  refine ((Ty _ (hw.below K9)).out).mono ?_
  rintro e w10 ⟨rfl, K10⟩
  replace G := Lib.hid (G.out.below K10)
  replace K10 := Below.then_ K9 K10
  clear K9
  go_wp2
  go_ret
  exact ⟨rfl, K10⟩
theorem long (a b c : Nat) (p : Int) (l : List UInt8) (hl : 200 < l.length) (hl2 : l.length ≤ 9223372036854775807) (w : World) (hw : Laid w) :
    Calls Tryd.prog 4 #[.int .u32 a, .int .u32 b, .agg #[.int .u32 c, .int .i64 p], S l] w fun e w' => e = .returned (.bool true) ∧ Below w.heap.size w w' := by
  have hlen : decide ((200 : Int) < (l.length : Int)) = true := by simp; omega
  have L0 := below_alloc w (.cells #[.int .u32 c, .int .i64 p] 24)
  go_enter Tryd.func4, Tryd.ntmps4
  go_wp2_with fail
  refine (awake_any _ (hw.below L0)).mono ?_
  rintro e w1 ⟨rfl, K1⟩
  replace K1 := Below.then_ L0 K1
  go_wp2_with fail
  refine (awake_any _ (hw.below K1)).mono ?_
  rintro e w2 ⟨rfl, K2⟩
  go_wp2
  go_ret
  exact ⟨rfl, Below.then_ K1 K2⟩
theorem walk (a0 a1 a2 b2 : Int) (s3 : ByteArray) (w : World) (w0 : (Lit.int .u32 a0).wf = true) (w1 : (Lit.int .u32 a1).wf = true) (w2 : (Lit.int .u32 a2).wf = true) (_wb : (Lit.int .i64 b2).wf = true) (ws : s3.size ≤ maxLen) (hw : Laid w) :
    Calls Tryd.prog 4 #[.int .u32 a0, .int .u32 a1, .agg #[.int .u32 a2, .int .i64 b2], .string s3] w fun e w' => e = .returned (.bool true) ∧ Below w.heap.size w w' := by
  obtain ⟨a, rfl, ha⟩ := wf_u32 w0
  obtain ⟨b, rfl, hb⟩ := wf_u32 w1
  obtain ⟨c, rfl, hc⟩ := wf_u32 w2
  obtain ⟨l, rfl⟩ : ∃ l : List UInt8, s3 = ⟨l.toArray⟩ := ⟨s3.data.toList, (Lib.mk_data s3).symm⟩
  rw [size_mk] at ws
  unfold maxLen at ws
  by_cases hl : l.length ≤ 200
  · cases hm : mayB c b2 with
    | true =>
      cases hP : par l with
      | some y => exact w_true_sn a b c b2 l ha hb hc hl hm y hP (not_both hP) w hw
      | none =>
        cases hB : parB l with
        | none => exact w_true_nn a b c b2 l ha hb hc hl hm hP hB w hw
        | some yq => exact w_true_ns a b c b2 l ha hb hc hl hm yq.1 yq.2 hP hB w hw
    | false =>
      cases hP : par l with
      | some y => exact w_false_sn a b c b2 l ha hb hc hl hm y hP (not_both hP) w hw
      | none =>
        cases hB : parB l with
        | none => exact w_false_nn a b c b2 l ha hb hc hl hm hP hB w hw
        | some yq => exact w_false_ns a b c b2 l ha hb hc hl hm yq.1 yq.2 hP hB w hw
  · exact long a b c b2 l (by omega) (by omega) w hw
end Go.Proofs.YtemchifjibkdfaaDoor.addrBack
