/-
  What each function of package addr answers, as numbers and lists of bytes: the world grows, and nothing that was there is otherwise. Conditions: texts of at most 1000 bytes; the variables of the library as the program's text lays them.
-/
import Derived.Test.YtemchifjibkdfaaDoorAddrLib
import Derived.Test.YtemchifjibkdfaaDoorIntMath
import Derived.OwnWalk
import Derived.Laws.IdiomStrings
import Derived.Lib.Slices
import Derived.BigCall
import Derived.LoopN
namespace Go.Proofs.YtemchifjibkdfaaDoor
open Go.RowKit
theorem byte_info : (Tryd.prog.info? 5).map (fun i => (i.zero, i.size, i.bytes)) = some (some (Value.int .u8 0), 1, 1) := by kernel_rfl
theorem info_parts {P : Program} {e : TypeId} {z : Value} {s b : Nat} (h : (P.info? e).map (fun i => (i.zero, i.size, i.bytes)) = some (some z, s, b)) : ∃ i, P.info? e = some i ∧ i.zero = some z ∧ i.size = s ∧ i.bytes = b := by
  cases hi : P.info? e with
  | none => rw [hi] at h; cases h
  | some i =>
    rw [hi] at h
    simp only [Option.map_some, Option.some.injEq, Prod.mk.injEq] at h
    exact ⟨i, rfl, h.1, h.2.1, h.2.2⟩
def b0 (a : Nat) : Nat := a / 16777216
def b1 (a : Nat) : Nat := a / 65536 % 256
def b2 (a : Nat) : Nat := a / 256 % 256
def b3 (a : Nat) : Nat := a % 256
theorem split_any (a : Nat) (ha : a < 4294967296) (w : World) :
    Calls Tryd.prog 27 #[.int .u32 a] w fun e w' => e = .returned (.agg #[.int .u8 (b0 a : Nat), .int .u8 (b1 a : Nat), .int .u8 (b2 a : Nat), .int .u8 (b3 a : Nat)]) ∧ Below w.heap.size w w' := by
  go_enter Tryd.func27, Tryd.ntmps27
  go_wp2
  refine bodyPost_ret (v := .agg #[.int .u8 (b0 a : Nat), .int .u8 (b1 a : Nat), .int .u8 (b2 a : Nat), .int .u8 (b3 a : Nat)]) ?_ rfl ⟨rfl, below_alloc w _⟩
  simp [results, Tryd.results27, go_sem, b0, b1, b2, b3]
theorem or_low (x b : Nat) (hx : x < 16777216) (hb : b < 256) : Go.bits .or .u32 ((x : Int) * 256) (b : Int) = ((x * 256 + b : Nat) : Int) := by
  have h := Nat.two_pow_add_eq_or_of_lt (i := 8) (b := b) (by omega) x
  have h2 := u32_or_nat (x * 256) b (by omega) (by omega)
  rw [Int.natCast_mul] at h2
  refine h2.trans ?_
  have : x * 256 ||| b = x * 256 + b := by rw [Nat.mul_comm]; exact h.symm
  rw [this]
theorem or_mod (x b : Nat) (hx : x < 16777216) (hb : b < 256) : Go.bits .or .u32 ((x : Int) * 256 % 4294967296) (b : Int) = ((x * 256 + b : Nat) : Int) := by
  rw [Int.emod_eq_of_lt (by omega) (by omega)]
  exact or_low x b hx hb
theorem or_zero (b : Nat) (hb : b < 256) : Go.bits .or .u32 0 (b : Int) = (b : Int) := by
  have := or_low 0 b (by omega) hb
  simpa using this
theorem idx4 (x0 x1 x2 x3 : Value) (k : Nat) (hk : k < 4) (w : World) : (Instr.index 50 (.agg #[x0, x1, x2, x3]) (.int .i64 k)).run Tryd.prog w = .ok ([x0, x1, x2, x3].getD k undef) w := by
  have h : (0 : Int) ≤ k ∧ (k : Int) < 4 := by omega
  match k, hk with
  | 0, _ => simp [Instr.index, run_underlying Tryd.underlying50, asIntOf, go_sem, part, Tryd.isAgg5, Tryd.sizeOf5]
  | 1, _ => simp [Instr.index, run_underlying Tryd.underlying50, asIntOf, go_sem, part, Tryd.isAgg5, Tryd.sizeOf5]
  | 2, _ => simp [Instr.index, run_underlying Tryd.underlying50, asIntOf, go_sem, part, Tryd.isAgg5, Tryd.sizeOf5]
  | 3, _ => simp [Instr.index, run_underlying Tryd.underlying50, asIntOf, go_sem, part, Tryd.isAgg5, Tryd.sizeOf5]
theorem idx4s (x0 x1 x2 x3 : Value) : (∀ w, (Instr.index 50 (.agg #[x0, x1, x2, x3]) (.int .i64 0)).run Tryd.prog w = .ok x0 w) ∧ (∀ w, (Instr.index 50 (.agg #[x0, x1, x2, x3]) (.int .i64 1)).run Tryd.prog w = .ok x1 w)
    ∧ (∀ w, (Instr.index 50 (.agg #[x0, x1, x2, x3]) (.int .i64 2)).run Tryd.prog w = .ok x2 w) ∧ (∀ w, (Instr.index 50 (.agg #[x0, x1, x2, x3]) (.int .i64 3)).run Tryd.prog w = .ok x3 w) :=
  ⟨idx4 x0 x1 x2 x3 0 (by omega), idx4 x0 x1 x2 x3 1 (by omega), idx4 x0 x1 x2 x3 2 (by omega), idx4 x0 x1 x2 x3 3 (by omega)⟩
set_option maxRecDepth 100000 in
theorem join_any (a b c d : Nat) (ha : a < 256) (hb : b < 256) (hc : c < 256) (hd : d < 256) (w : World) :
    Calls Tryd.prog 23 #[.agg #[.int .u8 a, .int .u8 b, .int .u8 c, .int .u8 d]] w fun e w' => e = .returned (.int .u32 (ad a b c d : Nat)) ∧ Below w.heap.size w w' := by
  obtain ⟨i0, i1, i2, i3⟩ := idx4s (.int .u8 a) (.int .u8 b) (.int .u8 c) (.int .u8 d)
  go_enter Tryd.func23, Tryd.ntmps23
  go_wp2
  refine wp_loop_rounds 5 ?_
  rw [rounds_succ]
  go_wp2
  rw [rounds_succ]
  go_wp2
  rw [rounds_succ]
  go_wp2
  rw [rounds_succ]
  go_wp2
  rw [rounds_succ]
  go_wp2
  go_ret
  refine ⟨ret_int ?_, below_alloc w _⟩
  rw [or_zero a ha, or_mod a b (by omega) hb, or_mod _ c (by omega) hc, or_mod _ d (by omega) hd]
  unfold ad
  omega
theorem pow_cut {p : Int} (h1 : 16 ≤ p) (h2 : p ≤ 32) (a : Nat) : ((a : Int) * 2 ^ p.toNat % 4294967296 == 0) = decide (a % 2 ^ (32 - p.toNat) = 0) := by
  obtain ⟨k, hk, hk2⟩ : ∃ k : Nat, p.toNat = k ∧ k ≤ 32 := ⟨p.toNat, rfl, by omega⟩
  rw [hk]
  have e : (4294967296 : Nat) = 2 ^ (32 - k) * 2 ^ k := by rw [← Nat.pow_add, Nat.sub_add_cancel hk2]
  have e2 : ((a : Int) * 2 ^ k % 4294967296) = ((a % 2 ^ (32 - k) * 2 ^ k : Nat) : Int) := by
    rw [← Nat.mul_mod_mul_right, ← e]
    rw [Int.natCast_emod, Int.natCast_mul, Int.natCast_pow]
    rfl
  rw [e2, Bool.eq_iff_iff]
  have hp : 0 < 2 ^ k := Nat.two_pow_pos k
  simp only [beq_iff_eq, decide_eq_true_eq]
  constructor
  · intro h
    have h' : a % 2 ^ (32 - k) * 2 ^ k = 0 := by exact_mod_cast h
    rcases Nat.mul_eq_zero.1 h' with g | g
    · exact g
    · omega
  · intro h
    rw [h]; simp
theorem may_any (a : Nat) (_ha : a < 4294967296) (p : Int) (w : World) :
    Calls Tryd.prog 17 #[.agg #[.int .u32 a, .int .i64 p]] w fun e w' => e = .returned (.bool (mayB a p)) ∧ Below w.heap.size w w' := by
  by_cases h1 : 16 ≤ p
  · by_cases h2 : p ≤ 32
    · have E : mayB a p = decide (a % 2 ^ (32 - p.toNat) = 0) := by unfold mayB; simp [h1, h2]
      rw [E, ← pow_cut h1 h2]
      clear E
      go_enter Tryd.func17, Tryd.ntmps17
      go_wp2
      go_ret
      exact ⟨rfl, below_alloc w _⟩
    · have E : mayB a p = false := by unfold mayB; simp; omega
      have e1 : decide (p ≤ 32) = false := by simpa using h2
      rw [E]
      clear E h2
      go_enter Tryd.func17, Tryd.ntmps17
      go_wp2
      go_ret
      exact ⟨rfl, below_alloc w _⟩
  · have E : mayB a p = false := by unfold mayB; simp; omega
    have e1 : decide (16 ≤ p) = false := by simpa using h1
    rw [E]
    clear E h1
    go_enter Tryd.func17, Tryd.ntmps17
    go_wp2
    go_ret
    exact ⟨rfl, below_alloc w _⟩
def Row (w : World) (B : Nat) (v : Value) (l : List UInt8) : Prop := w.ownsRow B 5 1 v l.length (Lib.byteCells l)
theorem put_num {w : World} {B u : Nat} {sv : Value} {l : List UInt8} (hu : u < 256) (O : Row w B sv l) (hB : B ≤ w.heap.size) (hl : l.length ≤ 900) (htab : Lib.TabIs Tryd.prog w "internal/strconv.uint64pow10" .u64 Lib.pow10Tab) :
    Calls Tryd.prog 28 #[sv, .int .u64 u, .int .i64 10] w fun e w' => ∃ v', e = .returned v' ∧ Row w' B v' (l ++ d3 u) ∧ Below B w w' := by
  refine (appendUint_any B l.length u hu sv _ w O hB (by omega) htab).mono ?_
  rintro e w' ⟨v', rfl, O', K'⟩
  refine ⟨v', rfl, ?_, K'⟩
  unfold Row
  rw [List.length_append, Lib.byteCells_append]
  exact O'
theorem put_dot {w : World} {B : Nat} {sv : Value} {l : List UInt8} (O : Row w B sv l) (hB : B ≤ w.heap.size) (hl : l.length ≤ 900) (ty : TypeId) :
    ∃ v' w', (Builtin.append_ #[46, 46] ty #[sv, .slice (some ⟨w.heap.size, 0, none⟩) 1 1]).run Tryd.prog (w.alloc (.cells #[.int .u8 46] 5)) = .ok v' w' ∧ Row w' B v' (l ++ [46]) ∧ Below B w w' := by
  obtain ⟨i0, hi, hz0, hz1, hz2⟩ := info_parts byte_info
  have L := below_alloc w (.cells #[.int .u8 46] 5)
  have O1 := own_below O L
  obtain ⟨v', w', hrun, h2, h3, _, _⟩ := run_append_own_at (P := Tryd.prog) (w.alloc (.cells #[.int .u8 46] 5)) B 46 ty 5 i0 (.int .u8 0) 1 1 Tryd.underlying46 hi hz0 hz1 hz2 rfl (by omega) sv l.length _ O1 ⟨w.heap.size, 0, none⟩ 1 1 [.int .u8 46] rfl
    (by intro j u hj; match j, hj with | 0, hj => simp at hj; subst hj; exact cell_new w _ _) (by intro u hu; simp at hu; subst hu; rfl) (by unfold maxLen; omega) (by omega) (by have := L.size; omega)
  refine ⟨v', w', hrun, ?_, ?_⟩
  · unfold Row
    rw [List.length_append, Lib.byteCells_append]
    exact h2
  · exact (L.mono hB).grown h3 (by have := L.size; omega) (own_ge O)
theorem row_str {w : World} {B : Nat} {v : Value} {l : List UInt8} (O : Row w B v l) (hl : 0 < l.length) : (convert 46 9 v).run Tryd.prog w = .ok (S l) w := by
  rcases O.2 with ⟨-, h0⟩ | ⟨g, cap, cur, rfl, -, -, -, -, -, -⟩
  · omega
  · exact run_convert_bytes_back (P := Tryd.prog) w 46 9 5 ⟨g, 0, none⟩ cap l Tryd.underlying46 Tryd.underlying5 Tryd.underlying9 (fun j hj => World.ownsRow.cells O (g := g) rfl j _ (by simp [Lib.byteCells, hj]))
set_option maxRecDepth 100000 in
set_option maxHeartbeats 1000000 in
theorem text_any (a : Nat) (ha : a < 4294967296) (w : World) (hw : Laid w) :
    Calls Tryd.prog 15 #[.int .u32 a] w fun e w' => e = .returned (S (txt a)) ∧ Below w.heap.size w w' := by
  have hT := Lib.hid (Lib.tabBelow_of_tabIs hw.tab)
  obtain ⟨j0, j1, j2, j3⟩ := idx4s (.int .u8 (b0 a : Nat)) (.int .u8 (b1 a : Nat)) (.int .u8 (b2 a : Nat)) (.int .u8 (b3 a : Nat))
  have h0 : b0 a < 256 := by unfold b0; omega
  have h1 : b1 a < 256 := by unfold b1; omega
  have h2 : b2 a < 256 := by unfold b2; omega
  have h3 : b3 a < 256 := by unfold b3; omega
  have l0 := d3_len (b0 a)
  have l1 := d3_len (b1 a)
  have l2 := d3_len (b2 a)
  have l3 := d3_len (b3 a)
  have R0 : ∀ w1 : World, Row w1 w.heap.size (.slice none 0 0) [] := fun w1 => World.ownsRow_nil _ _ _ _
  go_enter Tryd.func15, Tryd.ntmps15
  go_wp2_with (go_at_call 27; refine (split_any a ha _).mono ?_; rintro e w1 ⟨rfl, K1⟩)
  refine wp_loop_rounds 5 ?_
  rw [rounds_succ]
  go_wp2_with (go_at_call 28; refine (put_num h0 (R0 _) K1.size (by simp) (hT.out.on K1).here).mono ?_; rintro e w2 ⟨v2, rfl, O2, K2⟩)
  replace K2 := K1.trans K2
  obtain ⟨v3, w3, r3, O3, K3⟩ := put_dot O2 K2.size (by simp; omega) 46
  replace K3 := K2.trans K3
  rw [rounds_succ]
  go_wp2_with (first | (at_builtin; refine wpList_append_run rfl (.tmp 14) (.tmp 15) 46 rfl _ _ _ _ rfl rfl r3 ?_) | (go_at_call 28; refine (put_num h1 O3 K3.size (by simp; omega) (hT.out.on K3).here).mono ?_; rintro e w4 ⟨v4, rfl, O4, K4⟩))
  replace K4 := K3.trans K4
  clear r3
  obtain ⟨v5, w5, r5, O5, K5⟩ := put_dot O4 K4.size (by simp; omega) 46
  replace K5 := K4.trans K5
  rw [rounds_succ]
  go_wp2_with (first | (at_builtin; refine wpList_append_run rfl (.tmp 14) (.tmp 15) 46 rfl _ _ _ _ rfl rfl r5 ?_) | (go_at_call 28; refine (put_num h2 O5 K5.size (by simp; omega) (hT.out.on K5).here).mono ?_; rintro e w6 ⟨v6, rfl, O6, K6⟩))
  replace K6 := K5.trans K6
  clear r5
  obtain ⟨v7, w7, r7, O7, K7⟩ := put_dot O6 K6.size (by simp; omega) 46
  replace K7 := K6.trans K7
  rw [rounds_succ]
  go_wp2_with (first | (at_builtin; refine wpList_append_run rfl (.tmp 14) (.tmp 15) 46 rfl _ _ _ _ rfl rfl r7 ?_) | (go_at_call 28; refine (put_num h3 O7 K7.size (by simp; omega) (hT.out.on K7).here).mono ?_; rintro e w8 ⟨v8, rfl, O8, K8⟩))
  replace K8 := K7.trans K8
  clear r7
  have E : [] ++ d3 (b0 a) ++ [46] ++ d3 (b1 a) ++ [46] ++ d3 (b2 a) ++ [46] ++ d3 (b3 a) = txt a := by
    unfold txt txt4 b0 b1 b2 b3
    simp
  rw [E] at O8
  have r9 := row_str O8 (by have := txt_len a; omega)
  rw [rounds_succ]
  go_wp2
  go_ret
  exact ⟨rfl, K8⟩
end Go.Proofs.YtemchifjibkdfaaDoor
