/-
  Plain facts on the texts of addresses and blocks, over lists of bytes: digits, the text of an address, cutting at a byte, reading. No program in it.
-/
import Derived.Lib.ItoaNum
import Derived.Lib.AtoiAll
import Derived.Lib.Bytealg
namespace Go.Proofs.YtemchifjibkdfaaDoor
open Go
/-- The digits of a number below 1000. -/
def d3 (n : Nat) : List UInt8 :=
  if n < 10 then [UInt8.ofNat (48 + n)] else if n < 100 then [UInt8.ofNat (48 + n / 10), UInt8.ofNat (48 + n % 10)]
  else [UInt8.ofNat (48 + n / 100), UInt8.ofNat (48 + n / 10 % 10), UInt8.ofNat (48 + n % 10)]
theorem dec_d3 {n : Nat} (h : n < 1000) : Lib.decDigits n = d3 n := by
  unfold d3
  by_cases h1 : n < 10
  · rw [Lib.decDigits_one h1, if_pos h1]
  · by_cases h2 : n < 100
    · rw [Lib.decDigits_two h1 h2, if_neg h1, if_pos h2]
    · rw [if_neg h1, if_neg h2, Lib.decDigits, dif_neg h1, Lib.decDigits_two (by omega) (by omega)]
      have e : n / 10 / 10 = n / 100 := by omega
      rw [e]
      rfl
/-- What a byte is as a digit (a uint8's difference to 48). -/
def dg (c : UInt8) : Nat := (c - 48).toNat
def val (acc : Nat) : List UInt8 → Option Nat
  | [] => some acc
  | c :: r => if 9 < dg c ∨ 255 < acc * 10 + dg c then none else val (acc * 10 + dg c) r
/-- The number, at most 255, whose digits these are. -/
def num1 : List UInt8 → Option Nat
  | [] => none
  | c :: r => if c = 48 ∧ r ≠ [] then none else val 0 (c :: r)
theorem num1_d3 : ∀ n, n < 256 → num1 (d3 n) = some n := by
  have h : ∀ n : Fin 256, num1 (d3 n.val) = some n.val := by decide +kernel
  exact fun n hn => h ⟨n, hn⟩
theorem dg_eq (c : UInt8) : c = UInt8.ofNat (48 + dg c) := by
  unfold dg
  have hc := c.toNat_lt
  apply UInt8.toNat_inj.1
  rw [UInt8.toNat_sub]
  simp only [UInt8.toNat_ofNat', UInt8.toNat_ofNat]
  omega
theorem dg_zero {c : UInt8} (h : dg c = 0) : c = 48 := by
  have := dg_eq c
  rw [h] at this
  exact this
theorem num1_inv {l : List UInt8} {n : Nat} (h : num1 l = some n) : n < 256 ∧ l = d3 n := by
  match l, h with
  | [a], h =>
    simp only [num1, val] at h
    by_cases g : 9 < dg a ∨ 255 < 0 * 10 + dg a
    · rw [if_pos g] at h; simp at h
    · rw [if_neg g] at h
      simp at h
      have ea := dg_eq a
      subst h
      refine ⟨by omega, ?_⟩
      unfold d3
      rw [if_pos (by omega), ← ea]
  | [a, b], h =>
    simp only [num1, val] at h
    split at h
    · simp at h
    · rename_i h0
      split at h
      · simp at h
      · split at h
        · simp at h
        · rename_i g1 g2
          simp only [Option.some.injEq] at h
          have ea := dg_eq a
          have eb := dg_eq b
          have ne : dg a ≠ 0 := fun z => h0 ⟨dg_zero z, by simp⟩
          subst h
          refine ⟨by omega, ?_⟩
          unfold d3
          have e1 : ((0 * 10 + dg a) * 10 + dg b) / 10 = dg a := by omega
          have e2 : ((0 * 10 + dg a) * 10 + dg b) % 10 = dg b := by omega
          rw [if_neg (by omega), if_pos (by omega), e1, e2, ← ea, ← eb]
  | [a, b, c], h =>
    simp only [num1, val] at h
    split at h
    · simp at h
    · rename_i h0
      split at h
      · simp at h
      · split at h
        · simp at h
        · split at h
          · simp at h
          · rename_i g1 g2 g3
            simp only [Option.some.injEq] at h
            have ea := dg_eq a
            have eb := dg_eq b
            have ec := dg_eq c
            have ne : dg a ≠ 0 := fun z => h0 ⟨dg_zero z, by simp⟩
            subst h
            refine ⟨by omega, ?_⟩
            unfold d3
            have e1 : (((0 * 10 + dg a) * 10 + dg b) * 10 + dg c) / 100 = dg a := by omega
            have e2 : (((0 * 10 + dg a) * 10 + dg b) * 10 + dg c) / 10 % 10 = dg b := by omega
            have e3 : (((0 * 10 + dg a) * 10 + dg b) * 10 + dg c) % 10 = dg c := by omega
            rw [if_neg (by omega), if_neg (by omega), e1, e2, e3, ← ea, ← eb, ← ec]
  | a :: b :: c :: d :: r, h =>
    simp only [num1, val] at h
    split at h
    · simp at h
    · rename_i h0
      have ne : dg a ≠ 0 := fun z => h0 ⟨dg_zero z, by simp⟩
      split at h
      · simp at h
      · split at h
        · simp at h
        · split at h
          · simp at h
          · split at h
            · simp at h
            · omega
/-- A byte of a number's digits. -/
def isD (c : UInt8) : Prop := 48 ≤ c.toNat ∧ c.toNat ≤ 57
instance (c : UInt8) : Decidable (isD c) := inferInstanceAs (Decidable (_ ∧ _))
theorem isD_of {d : Nat} (h : d < 10) : isD (UInt8.ofNat (48 + d)) := by
  unfold isD
  rw [UInt8.toNat_ofNat']
  omega
theorem d3_isD {n : Nat} (h : n < 1000) : ∀ c ∈ d3 n, isD c := by
  unfold d3
  split
  · simp only [List.mem_singleton, forall_eq]; exact isD_of (by omega)
  · split
    · simp only [List.mem_cons, List.not_mem_nil, or_false, forall_eq_or_imp, forall_eq]; exact ⟨isD_of (by omega), isD_of (by omega)⟩
    · simp only [List.mem_cons, List.not_mem_nil, or_false, forall_eq_or_imp, forall_eq]; exact ⟨isD_of (by omega), isD_of (by omega), isD_of (by omega)⟩
theorem d3_len (n : Nat) : 1 ≤ (d3 n).length ∧ (d3 n).length ≤ 3 := by unfold d3; split <;> (try split) <;> simp
theorem d3_ne {n : Nat} (h : n < 1000) {c : UInt8} (hc : ¬ isD c) : ∀ x ∈ d3 n, x ≠ c := fun x hx e => hc (e ▸ d3_isD h x hx)
theorem d3_inj {m n : Nat} (hm : m < 256) (hn : n < 256) (h : d3 m = d3 n) : m = n := by
  have := num1_d3 m hm
  rw [h, num1_d3 n hn] at this
  exact (Option.some.inj this).symm
/-- Cut at the first byte c. -/
def cut1 (c : UInt8) : List UInt8 → List UInt8 × List UInt8 × Bool
  | [] => ([], [], false)
  | x :: r => if x = c then ([], r, true) else (x :: (cut1 c r).1, (cut1 c r).2.1, (cut1 c r).2.2)
theorem cut1_app (c : UInt8) (b : List UInt8) : ∀ a : List UInt8, (∀ x ∈ a, x ≠ c) → cut1 c (a ++ c :: b) = (a, b, true)
  | [], _ => by simp [cut1]
  | x :: a, h => by
    have hx : x ≠ c := h x (by simp)
    have := cut1_app c b a (fun y hy => h y (by simp [hy]))
    simp [cut1, hx, this]
theorem cut1_none (c : UInt8) : ∀ a : List UInt8, (∀ x ∈ a, x ≠ c) → cut1 c a = (a, [], false)
  | [], _ => by simp [cut1]
  | x :: a, h => by
    have hx : x ≠ c := h x (by simp)
    have := cut1_none c a (fun y hy => h y (by simp [hy]))
    simp [cut1, hx, this]
theorem cut1_inv (c : UInt8) : ∀ l : List UInt8, ((cut1 c l).2.2 = true ∧ l = (cut1 c l).1 ++ c :: (cut1 c l).2.1) ∨ ((cut1 c l).2.2 = false ∧ l = (cut1 c l).1 ∧ (cut1 c l).2.1 = [])
  | [] => by simp [cut1]
  | x :: r => by
    by_cases h : x = c
    · subst h; simp [cut1]
    · rcases cut1_inv c r with ⟨h1, h2⟩ | ⟨h1, h2, h3⟩
      · refine .inl ?_
        simp only [cut1, if_neg h]
        exact ⟨h1, by rw [List.cons_append, ← h2]⟩
      · refine .inr ?_
        simp only [cut1, if_neg h]
        exact ⟨h1, by rw [← h2], h3⟩
theorem cut1_len (c : UInt8) (l : List UInt8) : (cut1 c l).1.length ≤ l.length ∧ (cut1 c l).2.1.length ≤ l.length := by
  rcases cut1_inv c l with ⟨_, h2⟩ | ⟨_, h2, h3⟩
  · have := congrArg List.length h2
    simp at this
    omega
  · rw [h3, ← h2]; simp
theorem cut1_index (c : UInt8) : ∀ l : List UInt8, (Lib.indexByte l c = -1 ∧ cut1 c l = (l, [], false)) ∨ (∃ i : Nat, Lib.indexByte l c = i ∧ i < l.length ∧ cut1 c l = (l.take i, l.drop (i + 1), true))
  | [] => .inl (by simp [Lib.indexByte, cut1])
  | x :: r => by
    by_cases h : x = c
    · subst h
      refine .inr ⟨0, ?_⟩
      simp [Lib.indexByte, cut1]
    · have hb : (x == c) = false := by simpa using h
      rcases cut1_index c r with ⟨h1, h2⟩ | ⟨i, h1, h2, h3⟩
      · refine .inl ?_
        simp [Lib.indexByte, cut1, hb, h, h1, h2]
      · refine .inr ⟨i + 1, ?_⟩
        have hn : ((i : Int) == -1) = false := by simp
        simp [Lib.indexByte, cut1, hb, h, h1, h2, h3, hn]
/-- What is read of k numbers more, the rest being l. -/
def readN : Nat → List UInt8 → Bool → Option (List Nat)
  | 0, _, m => if m then none else some []
  | k + 1, l, _ => match num1 (cut1 46 l).1 with
    | none => none
    | some n => (readN k (cut1 46 l).2.1 (cut1 46 l).2.2).map (n :: ·)
def txt4 (a b c d : Nat) : List UInt8 := d3 a ++ 46 :: (d3 b ++ 46 :: (d3 c ++ 46 :: d3 d))
theorem nD46 : ¬ isD 46 := by decide
theorem nD47 : ¬ isD 47 := by decide
theorem readN_cut {k : Nat} {l r : List UInt8} {n : Nat} {m : Bool} (h : n < 256) (e : l = d3 n ++ 46 :: r) : readN (k + 1) l m = (readN k r true).map (n :: ·) := by
  subst e
  rw [readN, cut1_app 46 r _ (d3_ne (by omega) nD46)]
  simp [num1_d3 n h]
theorem readN_last {k : Nat} {n : Nat} {m : Bool} (h : n < 256) : readN (k + 1) (d3 n) m = (readN k [] false).map (n :: ·) := by
  rw [readN, cut1_none 46 _ (d3_ne (by omega) nD46)]
  simp [num1_d3 n h]
theorem readN_txt4 {a b c d : Nat} (ha : a < 256) (hb : b < 256) (hc : c < 256) (hd : d < 256) (m : Bool) : readN 4 (txt4 a b c d) m = some [a, b, c, d] := by
  unfold txt4
  rw [readN_cut ha rfl, readN_cut hb rfl, readN_cut hc rfl, readN_last hd]
  simp [readN]
theorem readN_step {k : Nat} {l : List UInt8} {m : Bool} {ns : List Nat} (h : readN (k + 1) l m = some ns) :
    ∃ n r, n < 256 ∧ ns = n :: r ∧ ((∃ s, l = d3 n ++ 46 :: s ∧ readN k s true = some r) ∨ (l = d3 n ∧ readN k [] false = some r)) := by
  rw [readN] at h
  cases hn : num1 (cut1 46 l).1 with
  | none => rw [hn] at h; simp at h
  | some n =>
    rw [hn] at h
    simp only [Option.map_eq_some_iff] at h
    obtain ⟨r, hr, rfl⟩ := h
    obtain ⟨h1, h2⟩ := num1_inv hn
    refine ⟨n, r, h1, rfl, ?_⟩
    rcases cut1_inv 46 l with ⟨g1, g2⟩ | ⟨g1, g2, g3⟩
    · rw [g1] at hr
      exact .inl ⟨_, by rw [h2] at g2; exact g2, hr⟩
    · rw [g1, g3] at hr
      exact .inr ⟨by rw [g2, h2], hr⟩
theorem readN_nil (k : Nat) (m : Bool) : readN (k + 1) [] m = none := by simp [readN, cut1, num1]
theorem readN_inv {l : List UInt8} {m : Bool} {ns : List Nat} (h : readN 4 l m = some ns) : ∃ a b c d, a < 256 ∧ b < 256 ∧ c < 256 ∧ d < 256 ∧ ns = [a, b, c, d] ∧ l = txt4 a b c d := by
  obtain ⟨a, r1, ha, rfl, ⟨s1, rfl, h1⟩ | ⟨_, h1⟩⟩ := readN_step h
  · obtain ⟨b, r2, hb, rfl, ⟨s2, rfl, h2⟩ | ⟨_, h2⟩⟩ := readN_step h1
    · obtain ⟨c, r3, hc, rfl, ⟨s3, rfl, h3⟩ | ⟨_, h3⟩⟩ := readN_step h2
      · obtain ⟨d, r4, hd, rfl, ⟨s4, rfl, h4⟩ | ⟨rfl, h4⟩⟩ := readN_step h3
        · simp [readN] at h4
        · simp [readN] at h4
          subst h4
          exact ⟨a, b, c, d, ha, hb, hc, hd, rfl, rfl⟩
      · rw [readN_nil] at h3; cases h3
    · rw [readN_nil] at h2; cases h2
  · rw [readN_nil] at h1; cases h1
/-- An address of four bytes; its text. -/
def ad (a b c d : Nat) : Nat := a * 16777216 + b * 65536 + c * 256 + d
def txt (a : Nat) : List UInt8 := txt4 (a / 16777216) (a / 65536 % 256) (a / 256 % 256) (a % 256)
theorem txt_ad {a b c d : Nat} (hb : b < 256) (hc : c < 256) (hd : d < 256) : txt (ad a b c d) = txt4 a b c d := by
  unfold txt ad
  have e1 : (a * 16777216 + b * 65536 + c * 256 + d) / 16777216 = a := by omega
  have e2 : (a * 16777216 + b * 65536 + c * 256 + d) / 65536 % 256 = b := by omega
  have e3 : (a * 16777216 + b * 65536 + c * 256 + d) / 256 % 256 = c := by omega
  have e4 : (a * 16777216 + b * 65536 + c * 256 + d) % 256 = d := by omega
  rw [e1, e2, e3, e4]
theorem ad_of (a : Nat) : ad (a / 16777216) (a / 65536 % 256) (a / 256 % 256) (a % 256) = a := by unfold ad; omega
/-- The address whose text it is. -/
def par (l : List UInt8) : Option Nat := match readN 4 l true with
  | some [a, b, c, d] => some (ad a b c d)
  | _ => none
theorem par_txt {a : Nat} (h : a < 4294967296) : par (txt a) = some a := by
  unfold par txt
  rw [readN_txt4 (by omega) (by omega) (by omega) (by omega)]
  simp [ad_of]
theorem par_inv {l : List UInt8} {a : Nat} (h : par l = some a) : a < 4294967296 ∧ l = txt a := by
  unfold par at h
  split at h
  · rename_i x y z t hr
    obtain ⟨a', b', c', d', h1, h2, h3, h4, e, hl⟩ := readN_inv hr
    simp only [List.cons.injEq, and_true] at e
    obtain ⟨rfl, rfl, rfl, rfl⟩ := e
    simp only [Option.some.injEq] at h
    subst h
    exact ⟨by unfold ad; omega, by rw [txt_ad h2 h3 h4, hl]⟩
  · simp at h
theorem par_none {l : List UInt8} (h : readN 4 l true = none) : par l = none := by unfold par; rw [h]
theorem par_some {l : List UInt8} {a b c d : Nat} (h : readN 4 l true = some [a, b, c, d]) : par l = some (ad a b c d) := by unfold par; rw [h]
theorem txt_inj {a b : Nat} (ha : a < 4294967296) (hb : b < 4294967296) (h : txt a = txt b) : a = b := by
  have := par_txt ha
  rw [h, par_txt hb] at this
  exact (Option.some.inj this).symm
theorem txt4_mem {a b c d : Nat} (ha : a < 256) (hb : b < 256) (hc : c < 256) (hd : d < 256) : ∀ x ∈ txt4 a b c d, isD x ∨ x = 46 := by
  intro x hx
  unfold txt4 at hx
  simp only [List.mem_append, List.mem_cons] at hx
  rcases hx with h | h | h | h | h | h | h
  · exact .inl (d3_isD (by omega) x h)
  · exact .inr h
  · exact .inl (d3_isD (by omega) x h)
  · exact .inr h
  · exact .inl (d3_isD (by omega) x h)
  · exact .inr h
  · exact .inl (d3_isD (by omega) x h)
theorem txt_mem {a : Nat} (h : a < 4294967296) : ∀ x ∈ txt a, isD x ∨ x = 46 := txt4_mem (by omega) (by omega) (by omega) (by omega)
theorem txt_ne47 {a : Nat} (h : a < 4294967296) : ∀ x ∈ txt a, x ≠ 47 := fun x hx e => by
  rcases txt_mem h x hx with g | g
  · subst e; exact nD47 g
  · subst e; exact absurd g (by decide)
theorem txt_len (a : Nat) : 7 ≤ (txt a).length ∧ (txt a).length ≤ 15 := by
  unfold txt txt4
  have h1 := d3_len (a / 16777216)
  have h2 := d3_len (a / 65536 % 256)
  have h3 := d3_len (a / 256 % 256)
  have h4 := d3_len (a % 256)
  simp
  omega
/-- May the block be? -/
def mayB (a : Nat) (p : Int) : Bool := decide (16 ≤ p ∧ p ≤ 32 ∧ a % 2 ^ (32 - p.toNat) = 0)
theorem mayB_rng {a : Nat} {p : Int} (h : mayB a p = true) : 16 ≤ p ∧ p ≤ 32 := by unfold mayB at h; simp at h; omega
def btxt (a p : Nat) : List UInt8 := txt a ++ 47 :: d3 p
theorem btxt_len (a p : Nat) : (btxt a p).length ≤ 19 := by
  unfold btxt
  have := txt_len a
  have := d3_len p
  simp
  omega
/-- The block whose text it is. -/
def parB (l : List UInt8) : Option (Nat × Nat) := match par (cut1 47 l).1, num1 (cut1 47 l).2.1 with
  | some a, some p => if mayB a p = true ∧ (cut1 47 l).2.2 = true then some (a, p) else none
  | _, _ => none
theorem cut_btxt {a p : Nat} (ha : a < 4294967296) : cut1 47 (btxt a p) = (txt a, d3 p, true) := cut1_app 47 _ _ (txt_ne47 ha)
theorem parB_btxt {a p : Nat} (ha : a < 4294967296) (h : mayB a p = true) : parB (btxt a p) = some (a, p) := by
  unfold parB
  rw [cut_btxt ha]
  have := mayB_rng h
  simp only [par_txt ha, num1_d3 p (by omega), h, and_self, if_true]
theorem parB_inv {l : List UInt8} {a p : Nat} (h : parB l = some (a, p)) : a < 4294967296 ∧ mayB a p = true ∧ l = btxt a p := by
  unfold parB at h
  split at h
  · rename_i x y hx hy
    split at h
    · rename_i g
      simp only [Option.some.injEq, Prod.mk.injEq] at h
      obtain ⟨rfl, rfl⟩ := h
      obtain ⟨h1, h2⟩ := par_inv hx
      obtain ⟨h3, h4⟩ := num1_inv hy
      refine ⟨h1, g.1, ?_⟩
      rcases cut1_inv 47 l with ⟨g1, g2⟩ | ⟨g1, g2, g3⟩
      · rw [g2, h2, h4]; rfl
      · rw [g1] at g; exact absurd g.2 (by simp)
    · simp at h
  · simp at h
theorem btxt_inj {a b p q : Nat} (ha : a < 4294967296) (hb : b < 4294967296) (h : mayB a p = true) (g : mayB b q = true) (e : btxt a p = btxt b q) : a = b ∧ p = q := by
  have := parB_btxt ha h
  rw [e, parB_btxt hb g] at this
  simp only [Option.some.injEq, Prod.mk.injEq] at this
  exact ⟨this.1.symm, this.2.symm⟩
/-- No text is both's. -/
theorem par_btxt {a p : Nat} : par (btxt a p) = none := by
  cases h : par (btxt a p) with
  | none => rfl
  | some b =>
    obtain ⟨hb, e⟩ := par_inv h
    have : (47 : UInt8) ∈ btxt a p := by unfold btxt; simp
    rw [e] at this
    exact absurd rfl (txt_ne47 hb 47 this)
theorem atoi_d3 : ∀ p, 16 ≤ p → p ≤ 32 → Lib.atoiAll (d3 p) = .ok (p : Int) := by
  have h : ∀ p : Fin 33, 16 ≤ p.val → Lib.atoiAll (d3 p.val) = .ok (p.val : Int) := by decide +kernel
  exact fun p h1 h2 => h ⟨p, by omega⟩ h1
/-- The numbers of a text, digits by digits (the document's own reading). -/
def numsF (cur : Nat) : List UInt8 → List Nat
  | [] => [cur]
  | c :: r => if isD c then numsF (min (10 * cur + (c.toNat - 48)) 100000) r else cur :: numsF 0 r
theorem numsF_dig (cur d : Nat) (hd : d < 10) (h : 10 * cur + d ≤ 100000) (r : List UInt8) : numsF cur (UInt8.ofNat (48 + d) :: r) = numsF (10 * cur + d) r := by
  rw [numsF, if_pos (isD_of hd)]
  have : (UInt8.ofNat (48 + d)).toNat - 48 = d := by rw [UInt8.toNat_ofNat']; omega
  rw [this, Nat.min_eq_left h]
theorem numsF_d3 {n : Nat} (h : n < 1000) (r : List UInt8) : numsF 0 (d3 n ++ r) = numsF n r := by
  unfold d3
  split
  · rw [List.cons_append, numsF_dig _ _ (by omega) (by omega)]; simp
  · split
    · rw [List.cons_append, numsF_dig _ _ (by omega) (by omega), List.cons_append, numsF_dig _ _ (by omega) (by omega)]
      have : 10 * (10 * 0 + n / 10) + n % 10 = n := by omega
      rw [this]; rfl
    · rw [List.cons_append, numsF_dig _ _ (by omega) (by omega), List.cons_append, numsF_dig _ _ (by omega) (by omega), List.cons_append, numsF_dig _ _ (by omega) (by omega)]
      have : 10 * (10 * (10 * 0 + n / 100) + n / 10 % 10) + n % 10 = n := by omega
      rw [this]; rfl
theorem numsF_sep (cur : Nat) (c : UInt8) (hc : ¬ isD c) (r : List UInt8) : numsF cur (c :: r) = cur :: numsF 0 r := by rw [numsF, if_neg hc]
theorem numsF_end {n : Nat} (h : n < 1000) : numsF 0 (d3 n) = [n] := by
  have := numsF_d3 h []
  rw [List.append_nil] at this
  rw [this]; rfl
theorem nums_txt4 {a b c d : Nat} (ha : a < 256) (hb : b < 256) (hc : c < 256) (hd : d < 256) : numsF 0 (txt4 a b c d) = [a, b, c, d] := by
  unfold txt4
  rw [numsF_d3 (by omega), numsF_sep _ _ nD46, numsF_d3 (by omega), numsF_sep _ _ nD46, numsF_d3 (by omega), numsF_sep _ _ nD46, numsF_end (by omega)]
theorem nums_btxt {a b c d p : Nat} (ha : a < 256) (hb : b < 256) (hc : c < 256) (hd : d < 256) (hp : p < 1000) : numsF 0 (txt4 a b c d ++ 47 :: d3 p) = [a, b, c, d, p] := by
  unfold txt4
  simp only [List.append_assoc, List.cons_append]
  rw [numsF_d3 (by omega), numsF_sep _ _ nD46, numsF_d3 (by omega), numsF_sep _ _ nD46, numsF_d3 (by omega), numsF_sep _ _ nD46, numsF_d3 (by omega), numsF_sep _ _ nD47, numsF_end hp]
theorem numsF_pos : ∀ (l : List UInt8) (cur : Nat), 0 < (numsF cur l).length
  | [], cur => by simp [numsF]
  | c :: r, cur => by
    rw [numsF]
    split
    · exact numsF_pos r _
    · simp
/-- Numbers between dots: how many dots. -/
def sc : Nat → Nat → List UInt8 → Option Nat
  | g, dots, [] => if 2 ≤ g ∧ g ≤ 4 then some dots else none
  | g, dots, c :: r => if c = 46 then (if 2 ≤ g ∧ g ≤ 4 then sc 1 (dots + 1) r else none) else if isD c then sc (g + 1) dots r else none
theorem sc_dig (g dots d : Nat) (hd : d < 10) (r : List UInt8) : sc g dots (UInt8.ofNat (48 + d) :: r) = sc (g + 1) dots r := by
  have h := isD_of hd
  have hn : UInt8.ofNat (48 + d) ≠ 46 := fun e => nD46 (e ▸ h)
  rw [sc, if_neg hn, if_pos h]
theorem sc_d3 {n : Nat} (h : n < 1000) (dots : Nat) (r : List UInt8) : ∃ g, 2 ≤ g ∧ g ≤ 4 ∧ sc 1 dots (d3 n ++ r) = sc g dots r := by
  unfold d3
  split
  · exact ⟨2, by omega, by omega, by rw [List.cons_append, sc_dig _ _ _ (by omega)]; rfl⟩
  · split
    · exact ⟨3, by omega, by omega, by rw [List.cons_append, sc_dig _ _ _ (by omega), List.cons_append, sc_dig _ _ _ (by omega)]; rfl⟩
    · exact ⟨4, by omega, by omega, by rw [List.cons_append, sc_dig _ _ _ (by omega), List.cons_append, sc_dig _ _ _ (by omega), List.cons_append, sc_dig _ _ _ (by omega)]; rfl⟩
theorem sc_dot {n : Nat} (h : n < 1000) (dots : Nat) (r : List UInt8) : sc 1 dots (d3 n ++ 46 :: r) = sc 1 (dots + 1) r := by
  obtain ⟨g, h1, h2, e⟩ := sc_d3 h dots (46 :: r)
  rw [e, sc, if_pos rfl, if_pos ⟨h1, h2⟩]
theorem sc_end {n : Nat} (h : n < 1000) (dots : Nat) : sc 1 dots (d3 n) = some dots := by
  obtain ⟨g, h1, h2, e⟩ := sc_d3 h dots []
  rw [List.append_nil] at e
  rw [e, sc, if_pos ⟨h1, h2⟩]
theorem sc_txt {a : Nat} (h : a < 4294967296) : sc 1 0 (txt a) = some 3 := by
  unfold txt txt4
  rw [sc_dot (by omega), sc_dot (by omega), sc_dot (by omega), sc_end (by omega)]
end Go.Proofs.YtemchifjibkdfaaDoor
