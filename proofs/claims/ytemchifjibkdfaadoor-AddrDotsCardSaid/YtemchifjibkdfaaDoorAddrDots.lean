/-
  The walk of the law AddrDots: for every address and byte it answers true. Conditions: the variables of the library as the program's text lays them.
-/
import Derived.Test.YtemchifjibkdfaaDoorAddrAwake
namespace Go.Proofs.YtemchifjibkdfaaDoor.addrDots
open Go.RowKit
theorem par_zero {a : Nat} (ha : a < 4294967296) : par (48 :: txt a) = none := by
  apply par_none
  unfold txt txt4
  rw [← List.cons_append, readN, cut1_app 46]
  · have h := d3_len (a / 16777216)
    have : num1 (48 :: d3 (a / 16777216)) = none := by
      simp only [num1]
      rw [if_pos ⟨trivial, fun e => by rw [e] at h; simp at h⟩]
    simp [this]
  · intro x hx
    rcases List.mem_cons.1 hx with h | h
    · subst h; decide
    · exact d3_ne (by omega) nD46 x h
theorem par_blank (l : List UInt8) : par (l ++ [32]) = none := by
  cases h : par (l ++ [32]) with
  | none => rfl
  | some x =>
    obtain ⟨hx, e⟩ := par_inv h
    have : (32 : UInt8) ∈ l ++ [32] := by simp
    rw [e] at this
    rcases txt_mem hx 32 this with g | g
    · exact absurd g (by decide)
    · exact absurd g (by decide)
theorem last_isD {y : Nat} {m : List UInt8} {c : UInt8} (h : txt y = m ++ [c]) : isD c := by
  have h1 : (txt y).getLast? = some c := by rw [h]; simp
  have hd := d3_len (y % 256)
  have h2 : (txt y).getLast? = (d3 (y % 256)).getLast? := by
    unfold txt txt4
    cases hz : (d3 (y % 256)).getLast? with
    | none =>
      rw [List.getLast?_eq_none_iff] at hz
      rw [hz] at hd
      simp at hd
    | some z => simp [List.getLast?_append, List.getLast?_cons, hz]
  rw [h2] at h1
  exact d3_isD (by omega) c (List.mem_of_getLast? h1)
theorem par_more {a y : Nat} {c : UInt8} (h : par (txt a ++ [c]) = some y) : y ≠ a ∧ isD c := by
  obtain ⟨_, e⟩ := par_inv h
  refine ⟨fun ea => ?_, last_isD e.symm⟩
  subst ea
  have := congrArg List.length e
  simp at this
theorem conv1 (X : Nat) (hX : X < 256) (w : World) : (convert 46 9 (.slice (some ⟨w.heap.size, 0, none⟩) 1 1)).run Tryd.prog (w.alloc (.cells #[.int .u8 X] 5)) = .ok (S [UInt8.ofNat X]) (w.alloc (.cells #[.int .u8 X] 5)) := by
  refine run_convert_bytes_back (P := Tryd.prog) _ 46 9 5 ⟨w.heap.size, 0, none⟩ 1 [UInt8.ofNat X] Tryd.underlying46 Tryd.underlying5 Tryd.underlying9 ?_
  intro j hj
  have : j = 0 := by simp at hj; exact hj
  subst this
  have e : ((UInt8.ofNat X).toNat : Int) = X := by rw [UInt8.toNat_ofNat']; omega
  rw [List.getElem_cons_zero, e]
  exact cell_new w _ _
def Rel (t : List UInt8) (i : Nat) (L : Int) (dots : Nat) : Prop := (i ≤ t.length ∧ ∃ g : Nat, (i : Int) - L = g ∧ -1 ≤ L ∧ L ≤ i ∧ dots ≤ i ∧ sc g dots (t.drop i) = some 3) ∨ (i = t.length + 1 ∧ dots = 3)
set_option maxRecDepth 100000 in
set_option maxHeartbeats 2000000 in
theorem small (a X : Nat) (ha : a < 4294967296) (hX : X < 256) (w : World) (hw : Laid w) :
    Calls Tryd.prog 6 #[.int .u32 a, .int .u8 X] w fun e w' => e = .returned (.bool true) ∧ Below w.heap.size w w' := by
  have hsc := Lib.hid (sc_txt ha)
  have hlen := txt_len a
  have T := fun w2 h => Lib.hid (text_any a ha w2 h)
  have P1 : ∀ w2, Hid (Calls Tryd.prog 11 #[S (48 :: txt a)] w2 fun e w' => e = .returned (.tuple #[.int .u32 0, .int .i64 2]) ∧ Below w2.heap.size w2 w') := fun w2 => by
    have := parse_any (48 :: txt a) (by simp; omega) w2
    rw [par_zero ha] at this
    exact this
  have P2 : ∀ w2, Hid (Calls Tryd.prog 11 #[S ((txt a).take ((txt a).length - 1) ++ [32])] w2 fun e w' => e = .returned (.tuple #[.int .u32 0, .int .i64 2]) ∧ Below w2.heap.size w2 w') := fun w2 => by
    have := parse_any ((txt a).take ((txt a).length - 1) ++ [32]) (by simp; omega) w2
    rw [par_blank] at this
    exact this
  have P3 := fun w2 => Lib.hid (parse_any (txt a ++ [UInt8.ofNat X]) (by simp; omega) w2)
  have hM : ∀ y, par (txt a ++ [UInt8.ofNat X]) = some y → y ≠ a ∧ 48 ≤ X ∧ X ≤ 57 := fun y h => by
    obtain ⟨h1, h2⟩ := par_more h
    unfold isD at h2
    rw [UInt8.toNat_ofNat'] at h2
    omega
  obtain ⟨t, ht⟩ : ∃ t, t = txt a := ⟨_, rfl⟩
  rw [← ht] at hsc hlen T P1 P2 P3 hM
  clear ht
  have E1 : (⟨#[48]⟩ : ByteArray) ++ ⟨t.toArray⟩ = ⟨(48 :: t).toArray⟩ := by
    rw [show (#[48] : Array UInt8) = [48].toArray from rfl, ByteArray.mk_append_mk]
    rfl
  have E2 : (⟨t.toArray⟩ : ByteArray).extract 0 (t.length - 1) = ⟨(t.take (t.length - 1)).toArray⟩ := by rw [Lib.extract_eq]; simp
  have E3 : (⟨(t.take (t.length - 1)).toArray⟩ : ByteArray) ++ ⟨#[32]⟩ = ⟨(t.take (t.length - 1) ++ [32]).toArray⟩ := by
    rw [show (#[32] : Array UInt8) = [32].toArray from rfl, ByteArray.mk_append_mk]
  have E4 : (⟨t.toArray⟩ : ByteArray) ++ ⟨#[UInt8.ofNat X]⟩ = ⟨(t ++ [UInt8.ofNat X]).toArray⟩ := by
    rw [show (#[UInt8.ofNat X] : Array UInt8) = [UInt8.ofNat X].toArray from rfl, ByteArray.mk_append_mk]
  have hu : (t.take (t.length - 1)).length ≤ 15 := by simp; omega
  have HC : Hid (∀ w2, _) := fun w2 => conv1 X hX w2
  obtain ⟨v1, hv1⟩ : ∃ v, v = 48 :: t := ⟨_, rfl⟩
  obtain ⟨u, hu'⟩ : ∃ u, u = t.take (t.length - 1) := ⟨_, rfl⟩
  rw [← hv1] at E1 P1
  rw [← hu'] at E2 E3 P2 hu
  clear hv1 hu'
  obtain ⟨v2, hv2⟩ : ∃ v, v = u ++ [32] := ⟨_, rfl⟩
  obtain ⟨v3, hv3⟩ : ∃ v, v = t ++ [UInt8.ofNat X] := ⟨_, rfl⟩
  rw [← hv2] at E3 P2
  rw [← hv3] at E4 P3 hM
  clear hv2 hv3
  have HE := Lib.hid (And.intro E1 (And.intro E2 (And.intro E3 E4)))
  clear E1 E2 E3 E4
  go_enter Tryd.func6, Tryd.ntmps6
  go_wp2_with fail
  refine (awake_any _ hw).mono ?_
  rintro e w1 ⟨rfl, K1⟩
  go_wp2_with fail
  refine ((T _ (hw.below K1)).out).mono ?_
  rintro e w2 ⟨rfl, K2⟩
  replace K2 := Below.then_ K1 K2
  clear K1 T
  go_wp2
  go_loop [6, 7, 8] (fun s6 s7 s8 => ∃ (i dots : Nat) (L : Int), s6 = .int .i64 dots ∧ s7 = .int .i64 L ∧ s8 = .int .i64 i ∧ Hid (Rel t i L dots)) (fun _ _ s8 => t.length + 1 - (intOf s8).toNat)
  case atStart => exact ⟨0, 0, -1, rfl, rfl, rfl, .inl ⟨Nat.zero_le _, 1, by omega, by omega, by omega, by omega, hsc.out⟩⟩
  case round =>
    obtain ⟨i, dots, L, rfl, rfl, rfl, HR⟩ := hrel
    rcases HR.out with ⟨hi, g, hg, hL1, hL2, hd, hs⟩ | ⟨hi, hd⟩
    · clear HR
      rcases Nat.lt_or_ge i t.length with hlt | hge
      · rw [List.drop_eq_getElem_cons hlt] at hs
        obtain ⟨q, hq⟩ : ∃ q, q = t[i] := ⟨_, rfl⟩
        rw [← hq] at hs
        have zq : ∀ h, ((⟨t.toArray⟩ : ByteArray)[i]'h).toNat = q.toNat := fun _ => by rw [hq]; rfl
        clear hq
        have hne : ((i : Int) == (t.length : Int)) = false := by simp; omega
        rw [sc] at hs
        by_cases h46 : q = 46
        · subst h46
          rw [if_pos rfl] at hs
          by_cases h24 : 2 ≤ g ∧ g ≤ 4
          · rw [if_pos h24] at hs
            have HS := Lib.hid hs
            clear hs
            have e2 : decide ((g : Int) < 2) = false := by simp; omega
            have e4 : decide ((4 : Int) < (g : Int)) = false := by simp; omega
            go_wp2
            go_round
            case rel => exact ⟨i + 1, dots + 1, i, by go_num, rfl, by go_num, .inl ⟨by omega, 1, by omega, by omega, by omega, by omega, HS.out⟩⟩
            case measure => simp [intOf]; omega
          · rw [if_neg h24] at hs; cases hs
        · rw [if_neg h46] at hs
          by_cases hD : isD q
          · rw [if_pos hD] at hs
            have HS := Lib.hid hs
            clear hs
            have e46 : ((q.toNat : Int) == 46) = false := by
              have : q.toNat ≠ 46 := fun e => h46 (UInt8.toNat_inj.1 e)
              simp; omega
            unfold isD at hD
            have e8 : decide ((q.toNat : Int) < 48) = false := by simp; omega
            have e7 : decide ((57 : Int) < (q.toNat : Int)) = false := by simp; omega
            go_wp2
            go_round
            case rel => exact ⟨i + 1, dots, L, rfl, rfl, by go_num, .inl ⟨by omega, g + 1, by omega, by omega, by omega, by omega, HS.out⟩⟩
            case measure => simp [intOf]; omega
          · rw [if_neg hD] at hs; cases hs
      · obtain rfl : i = t.length := by omega
        rw [List.drop_length, sc] at hs
        by_cases h24 : 2 ≤ g ∧ g ≤ 4
        · rw [if_pos h24] at hs
          have hd3 : dots = 3 := by simpa using hs
          clear hs
          have e2 : decide ((g : Int) < 2) = false := by simp; omega
          have e4 : decide ((4 : Int) < (g : Int)) = false := by simp; omega
          go_wp2
          go_round
          case rel => exact ⟨t.length + 1, dots, t.length, rfl, rfl, by go_num, .inr ⟨rfl, hd3⟩⟩
          case measure => simp [intOf]
        · rw [if_neg h24] at hs; cases hs
    · clear HR
      subst hi hd
      obtain ⟨E1, E2, E3, E4⟩ := HE.out
      have cv := HC.out
      clear HE HC
      have n1 : ¬ 9223372036854775807 < 1 + t.length := by omega
      have n1' : ¬ 9223372036854775807 < t.length + 1 := by omega
      have n1'' : ¬ 9223372036854775806 < t.length := by omega
      have n2 : ¬ 9223372036854775807 < u.length + 1 := by omega
      have n2' : ¬ 9223372036854775806 < u.length := by omega
      have m1 : (0 : Int) ≤ (t.length : Int) - 1 := by omega
      have m2 : (t.length : Int) - 1 ≤ (t.length : Int) := by omega
      have m3 : ((t.length : Int) - 1).toNat = t.length - 1 := by omega
      go_wp2_with fail
      refine ((P1 _).out).mono ?_
      rintro e w3 ⟨rfl, K3⟩
      replace K3 := Below.then_ K2 K3
      go_wp2_with fail
      refine ((P2 _).out).mono ?_
      rintro e w4 ⟨rfl, K4⟩
      replace K4 := Below.then_ K3 K4
      have c4 := cv w4
      cases hP : par v3 with
      | none =>
        have Q : ∀ w2, Hid (Calls Tryd.prog 11 #[S v3] w2 fun e w' => e = .returned (.tuple #[.int .u32 0, .int .i64 2]) ∧ Below w2.heap.size w2 w') := fun w2 => by
          have := (P3 w2).out
          rw [hP] at this
          exact this
        clear P3 hM P1 P2 cv
        go_wp2_with fail
        refine ((Q _).out).mono ?_
        rintro e w5 ⟨rfl, K5⟩
        replace K5 := Below.then_ (Below.then_ K4 (below_alloc w4 _)) K5
        clear c4 E1 E2 E3 E4 Q
        go_wp2
        go_ret
        exact ⟨rfl, K5⟩
      | some y =>
        have Q : ∀ w2, Hid (Calls Tryd.prog 11 #[S v3] w2 fun e w' => e = .returned (.tuple #[.int .u32 y, .int .i64 0]) ∧ Below w2.heap.size w2 w') := fun w2 => by
          have := (P3 w2).out
          rw [hP] at this
          exact this
        obtain ⟨hy, h48, h57⟩ := hM y hP
        have ey : ((y : Int) != (a : Int)) = true := by simp; omega
        have e48 : decide ((48 : Int) ≤ (X : Int)) = true := by simp; omega
        have e57 : decide ((X : Int) ≤ 57) = true := by simp; omega
        clear P3 hM P1 P2 cv
        go_wp2_with fail
        refine ((Q _).out).mono ?_
        rintro e w5 ⟨rfl, K5⟩
        replace K5 := Below.then_ (Below.then_ K4 (below_alloc w4 _)) K5
        clear c4 E1 E2 E3 E4 Q
        go_wp2
        go_ret
        exact ⟨rfl, K5⟩
theorem walk (a0 a1 : Int) (w : World) (w0 : (Lit.int .u32 a0).wf = true) (w1 : (Lit.int .u8 a1).wf = true) (hw : Laid w) :
    Calls Tryd.prog 6 #[.int .u32 a0, .int .u8 a1] w fun e w' => e = .returned (.bool true) ∧ Below w.heap.size w w' := by
  obtain ⟨a, rfl, ha⟩ := wf_u32 w0
  obtain ⟨X, rfl, hX⟩ := wf_u8 w1
  exact small a X ha hX w hw
end Go.Proofs.YtemchifjibkdfaaDoor.addrDots
