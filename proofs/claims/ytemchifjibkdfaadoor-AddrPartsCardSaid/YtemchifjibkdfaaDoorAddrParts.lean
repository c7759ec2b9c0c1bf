/-
  The walk of the law AddrParts: for every four bytes it answers true. Conditions: the variables of the library as the program's text lays them.
-/
import Derived.Test.YtemchifjibkdfaaDoorAddrAwake
namespace Go.Proofs.YtemchifjibkdfaaDoor.addrParts
open Go.RowKit
theorem txt_low {x : Nat} (hx : x < 256) : txt x = [48, 46, 48, 46, 48, 46] ++ d3 x := by
  unfold txt txt4
  have e1 : x / 16777216 = 0 := by omega
  have e2 : x / 65536 % 256 = 0 := by omega
  have e3 : x / 256 % 256 = 0 := by omega
  have e4 : x % 256 = x := by omega
  have e5 : d3 0 = [48] := by decide
  rw [e1, e2, e3, e4, e5]
  rfl
theorem last_any (x : Nat) (hx : x < 256) (w : World) (hw : Laid w) :
    Calls Tryd.prog 19 #[.int .u8 x] w fun e w' => e = .returned (S (d3 x)) ∧ Below w.heap.size w w' := by
  have T := Lib.hid (text_any x (by omega) w hw)
  have hl := txt_len x
  have c1 : (6 : Int) ≤ ((txt x).length : Int) := by omega
  have c2 : 6 ≤ (txt x).length := by omega
  go_enter Tryd.func19, Tryd.ntmps19
  go_wp2_with fail
  refine (T.out).mono ?_
  rintro e w1 ⟨rfl, K1⟩
  clear T
  go_wp2
  go_ret
  refine ⟨?_, K1⟩
  have E : (⟨(txt x).toArray⟩ : ByteArray).extract 6 (txt x).length = ⟨(d3 x).toArray⟩ := by
    rw [Lib.extract_eq, List.take_of_length_le (by simp), txt_low hx]
    simp
  change Ending.returned (.string ((⟨(txt x).toArray⟩ : ByteArray).extract 6 (txt x).length)) = _
  rw [E]
theorem or4 (a b c d : Nat) (ha : a < 256) (hb : b < 256) (hc : c < 256) (hd : d < 256) :
    Go.bits .or .u32 (Go.bits .or .u32 (Go.bits .or .u32 ((a : Int) * 16777216) ((b : Int) * 65536)) ((c : Int) * 256)) (d : Int) = (ad a b c d : Nat) := by
  have e1 : Go.bits .or .u32 ((a : Int) * 16777216) ((b : Int) * 65536) = ((a * 16777216 + b * 65536 : Nat) : Int) := by
    have h := Nat.two_pow_add_eq_or_of_lt (i := 24) (b := b * 65536) (by omega) a
    have h2 := u32_or_nat (a * 16777216) (b * 65536) (by omega) (by omega)
    rw [Int.natCast_mul, Int.natCast_mul] at h2
    refine h2.trans ?_
    rw [show a * 16777216 = 2 ^ 24 * a by omega, ← h]
  have e2 : Go.bits .or .u32 ((a * 16777216 + b * 65536 : Nat) : Int) ((c : Int) * 256) = ((a * 16777216 + b * 65536 + c * 256 : Nat) : Int) := by
    have h := Nat.two_pow_add_eq_or_of_lt (i := 16) (b := c * 256) (by omega) (a * 256 + b)
    have h2 := u32_or_nat (a * 16777216 + b * 65536) (c * 256) (by omega) (by omega)
    rw [Int.natCast_mul c 256] at h2
    refine h2.trans ?_
    rw [show a * 16777216 + b * 65536 = 2 ^ 16 * (a * 256 + b) by omega, ← h]
  have e3 : Go.bits .or .u32 ((a * 16777216 + b * 65536 + c * 256 : Nat) : Int) (d : Int) = ((a * 16777216 + b * 65536 + c * 256 + d : Nat) : Int) := by
    have h := Nat.two_pow_add_eq_or_of_lt (i := 8) (b := d) (by omega) (a * 65536 + b * 256 + c)
    have h2 := u32_or_nat (a * 16777216 + b * 65536 + c * 256) d (by omega) (by omega)
    refine h2.trans ?_
    rw [show a * 16777216 + b * 65536 + c * 256 = 2 ^ 8 * (a * 65536 + b * 256 + c) by omega, ← h]
  rw [e1, e2, e3]
  rfl
set_option maxRecDepth 100000 in
set_option maxHeartbeats 1000000 in
theorem small (a b c d : Nat) (ha : a < 256) (hb : b < 256) (hc : c < 256) (hd : d < 256) (w : World) (hw : Laid w) :
    Calls Tryd.prog 7 #[.int .u8 a, .int .u8 b, .int .u8 c, .int .u8 d] w fun e w' => e = .returned (.bool true) ∧ Below w.heap.size w w' := by
  have T : ∀ x : Nat, x < 256 → ∀ w2, Laid w2 → Hid (Calls Tryd.prog 15 #[.int .u32 x] w2 fun e w' => e = .returned (S (txt x)) ∧ Below w2.heap.size w2 w') := fun x hx w2 h => text_any x (by omega) w2 h
  have la := txt_len a
  have lb := txt_len b
  have lc := txt_len c
  have ld := txt_len d
  have da := d3_len a
  have db := d3_len b
  have dc := d3_len c
  have dd := d3_len d
  have ta : decide (((txt a).length : Int) < 7) = false := by simp; omega
  have tb : decide (((txt b).length : Int) < 7) = false := by simp; omega
  have tc : decide (((txt c).length : Int) < 7) = false := by simp; omega
  have td : decide (((txt d).length : Int) < 7) = false := by simp; omega
  go_enter Tryd.func7, Tryd.ntmps7
  go_wp2_with fail
  refine (awake_any _ hw).mono ?_
  rintro e w1 ⟨rfl, K1⟩
  go_wp2_with fail
  refine ((T a ha _ (hw.below K1)).out).mono ?_
  rintro e w2 ⟨rfl, K2⟩
  replace K2 := Below.then_ K1 K2
  go_wp2_with fail
  refine ((T b hb _ (hw.below K2)).out).mono ?_
  rintro e w3 ⟨rfl, K3⟩
  replace K3 := Below.then_ K2 K3
  go_wp2_with fail
  refine ((T c hc _ (hw.below K3)).out).mono ?_
  rintro e w4 ⟨rfl, K4⟩
  replace K4 := Below.then_ K3 K4
  go_wp2_with fail
  refine ((T d hd _ (hw.below K4)).out).mono ?_
  rintro e w5 ⟨rfl, K5⟩
  replace K5 := Below.then_ K4 K5
  clear K1 K2 K3 K4
  go_wp2_with fail
  refine (last_any a ha _ (hw.below K5)).mono ?_
  rintro e w6 ⟨rfl, K6⟩
  replace K6 := Below.then_ K5 K6
  have n1 : ¬ 9223372036854775807 < (d3 a).length + 1 := by omega
  have n1' : ¬ 9223372036854775806 < (d3 a).length := by omega
  go_wp2_with fail
  refine (last_any b hb _ (hw.below K6)).mono ?_
  rintro e w7 ⟨rfl, K7⟩
  replace K7 := Below.then_ K6 K7
  clear n1 n1'
  have n2 : ¬ 9223372036854775807 < (d3 a).length + 1 + (d3 b).length := by omega
  have n3 : ¬ 9223372036854775807 < (d3 a).length + 1 + (d3 b).length + 1 := by omega
  have n3' : ¬ 9223372036854775806 < (d3 a).length + 1 + (d3 b).length := by omega
  go_wp2_with fail
  refine (last_any c hc _ (hw.below K7)).mono ?_
  rintro e w8 ⟨rfl, K8⟩
  replace K8 := Below.then_ K7 K8
  clear n2 n3 n3'
  have n4 : ¬ 9223372036854775807 < (d3 a).length + 1 + (d3 b).length + 1 + (d3 c).length := by omega
  have n5 : ¬ 9223372036854775807 < (d3 a).length + 1 + (d3 b).length + 1 + (d3 c).length + 1 := by omega
  have n5' : ¬ 9223372036854775806 < (d3 a).length + 1 + (d3 b).length + 1 + (d3 c).length := by omega
  go_wp2_with fail
  refine (last_any d hd _ (hw.below K8)).mono ?_
  rintro e w9 ⟨rfl, K9⟩
  replace K9 := Below.then_ K8 K9
  clear n4 n5 n5'
  have n6 : ¬ 9223372036854775807 < (d3 a).length + 1 + (d3 b).length + 1 + (d3 c).length + 1 + (d3 d).length := by omega
  have E : (⟨(d3 a).toArray⟩ : ByteArray) ++ ⟨#[46]⟩ ++ ⟨(d3 b).toArray⟩ ++ ⟨#[46]⟩ ++ ⟨(d3 c).toArray⟩ ++ ⟨#[46]⟩ ++ ⟨(d3 d).toArray⟩ = ⟨(txt4 a b c d).toArray⟩ := by
    rw [show (#[46] : Array UInt8) = [46].toArray from rfl]
    repeat rw [ByteArray.mk_append_mk]
    simp [txt4]
  have hp : par (txt4 a b c d) = some (ad a b c d) := par_some (readN_txt4 ha hb hc hd true)
  have hx : ad a b c d < 4294967296 := by unfold ad; omega
  have htx := txt_ad (a := a) hb hc hd
  have hl4 : (txt4 a b c d).length ≤ 1000 := by
    have := txt_len (ad a b c d)
    rw [htx] at this
    omega
  have P1 := fun w2 => Lib.hid (parse_any (txt4 a b c d) hl4 w2)
  rw [hp] at P1
  have T2 := fun w2 h => Lib.hid (text_any (ad a b c d) hx w2 h)
  rw [htx] at T2
  have O := or4 a b c d ha hb hc hd
  generalize ad a b c d = x at *
  generalize txt4 a b c d = t4 at *
  clear hp htx T ta tb tc td
  go_wp2_with fail
  refine ((P1 _).out).mono ?_
  rintro e w10 ⟨rfl, K10⟩
  replace K10 := Below.then_ K9 K10
  clear P1 n6 E
  go_wp2_with fail
  refine ((T2 _ (hw.below K10)).out).mono ?_
  rintro e w11 ⟨rfl, K11⟩
  replace K11 := Below.then_ K10 K11
  go_wp2
  go_ret
  exact ⟨rfl, K11⟩
theorem walk (a0 a1 a2 a3 : Int) (w : World) (w0 : (Lit.int .u8 a0).wf = true) (w1 : (Lit.int .u8 a1).wf = true) (w2 : (Lit.int .u8 a2).wf = true) (w3 : (Lit.int .u8 a3).wf = true) (hw : Laid w) :
    Calls Tryd.prog 7 #[.int .u8 a0, .int .u8 a1, .int .u8 a2, .int .u8 a3] w fun e w' => e = .returned (.bool true) ∧ Below w.heap.size w w' := by
  obtain ⟨a, rfl, ha⟩ := wf_u8 w0
  obtain ⟨b, rfl, hb⟩ := wf_u8 w1
  obtain ⟨c, rfl, hc⟩ := wf_u8 w2
  obtain ⟨d, rfl, hd⟩ := wf_u8 w3
  exact small a b c d ha hb hc hd w hw
end Go.Proofs.YtemchifjibkdfaaDoor.addrParts
