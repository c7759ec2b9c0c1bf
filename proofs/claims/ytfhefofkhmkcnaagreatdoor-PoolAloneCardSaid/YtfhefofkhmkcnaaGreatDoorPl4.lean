/-
  What the functions that these laws call answer, and what follows of it; conditions: those that each theorem names. In this file: BlockOpen, BlockMath, BitMath, BitCalls, PlaceCalls, PlaceRefs.
-/
import Derived.Test.YtfhefofkhmkcnaaGreatDoorPl3
import Derived.ChangeOld
import Derived.Lib.SmallJoins
/-
 What a law is told of a configuration that came in: its cells,and the row of its reserved offsets.
-/
namespace Go.Proofs.YtfhefofkhmkcnaaGreatDoor
set_option maxRecDepth 100000
set_option maxHeartbeats 8000000
set_option maxRecDepth 100000
open Go.ChangeShapes Go.WideShapes Go.ChangeAt Go.RowKit Go.Joins
theorem array7 {α:Type} {cs:Array α} (h:cs.size=7):∃ c0 c1 c2 c3 c4 c5 c6,cs=#[c0,c1,c2,c3,c4,c5,c6]:=by
 obtain ⟨l⟩:=cs
 match l,h with
 | [c0,c1,c2,c3,c4,c5,c6],_=>exact ⟨c0,c1,c2,c3,c4,c5,c6,rfl⟩
theorem trod_struct6 {H:Type} {enc:TypeId×Value→H} {P:Program} {w:World} {base:Nat} {spare:Nat→Bool} {held:Bool} {t:TypeId} {f0 f1 f2 f3 f4 f5:Field} {fuel:Nat} {cs:List Value} {x:DataW H×List MemPlace} (ht:P.underlying t=some (.struct #[f0,f1,f2,f3,f4,f5])) (h:DataW.trod enc P w base spare held fuel t cs=some x) :
  ∃ y0 y1 y2 y3 y4 y5 n,DataW.trod enc P w base spare held n f0.type ((cs.drop f0.offset).take (P.cellsOf f0.type))=some y0∧DataW.trod enc P w base spare held n f1.type ((cs.drop f1.offset).take (P.cellsOf f1.type))=some y1 ∧
   DataW.trod enc P w base spare held n f2.type ((cs.drop f2.offset).take (P.cellsOf f2.type))=some y2∧DataW.trod enc P w base spare held n f3.type ((cs.drop f3.offset).take (P.cellsOf f3.type))=some y3 ∧
   DataW.trod enc P w base spare held n f4.type ((cs.drop f4.offset).take (P.cellsOf f4.type))=some y4∧DataW.trod enc P w base spare held n f5.type ((cs.drop f5.offset).take (P.cellsOf f5.type))=some y5:=by
 obtain ⟨xs,n,_,_,_,hlen,hf⟩:=DataW.trod_struct ht h
 match xs,hlen with
 | [y0,y1,y2,y3,y4,y5],_=>exact ⟨y0,y1,y2,y3,y4,y5,n,by simpa using hf 0 f0 rfl,by simpa using hf 1 f1 rfl,by simpa using hf 2 f2 rfl,by simpa using hf 3 f3 rfl,by simpa using hf 4 f4 rfl,by simpa using hf 5 f5 rfl⟩
theorem open_conf {H:Type} {enc:TypeId×Value→H} {W:World} {base:Nat} {v:Value} {d:DataW H} {ps:List MemPlace} (hv:Value.okWide Tryz.prog W .any base 27 v) (h:DataW.Trod enc Tryz.prog W 0 (fun _=>true) true 27 v d ps) :
  ∃ (a p:Int) (A:Option Addr) (n c:Nat) (z:List Int) (sh wo qu tr:Int),v=.agg #[.int .u32 a,.int .i64 p,.slice A n c,.int .i64 sh,.int .i64 wo,.int .i64 qu,.int .i64 tr]∧(Lit.int .u32 a).wf=true∧IsRow .i64 W A n c z:=by
 obtain ⟨cs,rfl,hsz⟩:=okWide_struct Tryz.underlying27 hv
 have hC:Tryz.prog.cellsOf 27 = 7:=by kernel_rfl
 obtain ⟨c0,c1,c2,c3,c4,c5,c6,rfl⟩:=array7 (hsz.trans hC)
 obtain ⟨fuel,hf⟩:=h
 obtain ⟨y0,y1,y2,y3,y4,y5,n,f0,f1,f2,f3,f4,f5⟩:=trod_struct6 Tryz.underlying27 hf
 have k24:Tryz.prog.cellsOf 24 = 2:=by kernel_rfl
 have k25:Tryz.prog.cellsOf 25 = 1:=by kernel_rfl
 have k3:Tryz.prog.cellsOf 3 = 1:=by kernel_rfl
 have k22:Tryz.prog.cellsOf 22 = 1:=by kernel_rfl
 simp only [Value.cells,k24,k25,k3,List.drop_zero,List.drop_succ_cons,List.take_succ_cons,List.take_zero] at f0 f1 f2 f3 f4 f5
 obtain ⟨u0,u1,m,_,_,g0,g1⟩:=trod_struct2 Tryz.underlying24 f0
 simp only [k22,k3,List.drop_zero,List.drop_succ_cons,List.take_succ_cons,List.take_zero] at g0 g1
 obtain ⟨a,e0,_,wa⟩:=DataW.trod_int Tryz.underlying22 g0
 obtain ⟨p,e1,_,_⟩:=DataW.trod_int Tryz.underlying3 g1
 obtain ⟨sh,e3,_,_⟩:=DataW.trod_int Tryz.underlying3 f2
 obtain ⟨wo,e4,_,_⟩:=DataW.trod_int Tryz.underlying3 f3
 obtain ⟨qu,e5,_,_⟩:=DataW.trod_int Tryz.underlying3 f4
 obtain ⟨tr,e6,_,_⟩:=DataW.trod_int Tryz.underlying3 f5
 obtain ⟨A,n,c,z,e2,w1⟩:∃ A n c z,c2=.slice A n c∧IsRow .i64 W A n c z:=by
  rcases open_ints Tryz.underlying25 Tryz.underlying3 (by kernel_rfl) f1 with ⟨hcs,_⟩ | ⟨x,l,c,zs,hcs,_,hl,hm,hz,_,hcell,hwz⟩
  ·simp only [List.cons.injEq,and_true] at hcs
   exact ⟨none,0,0,[],hcs,.inl ⟨rfl,rfl,rfl,rfl⟩⟩
  ·simp only [List.cons.injEq,and_true] at hcs
   exact ⟨_,_,_,zs,hcs,.inr ⟨_,rfl,hl,hm,by simpa using hz,hcell,hwz⟩⟩
 simp only [List.cons.injEq,and_true] at e0 e1 e3 e4 e5 e6
 subst e0 e1 e2 e3 e4 e5 e6
 exact ⟨a,p,A,n,c,z,sh,wo,qu,tr,rfl,wa,w1⟩
end Go.Proofs.YtfhefofkhmkcnaaGreatDoor

/-
 Rising lists: as many numbers below m are in one as it has;without one of its numbers it rises still,and that number is not in it. No program in it.
-/
namespace Go.Proofs.YtfhefofkhmkcnaaGreatDoor
set_option maxRecDepth 100000
set_option maxHeartbeats 8000000
set_option maxRecDepth 100000
/-- How many of the numbers below i are in the list. -/
def cn (xs:List Int):Nat→Nat
 | 0=>0
 | i+1=>cn xs i+(if hasB xs (i:Int) then 1 else 0)
theorem cn_yes {xs:List Int} {i:Nat} (h:hasB xs (i:Int)=true):cn xs (i+1)=cn xs i+1:=by rw [cn,if_pos h]
theorem cn_no {xs:List Int} {i:Nat} (h:hasB xs (i:Int)=false):cn xs (i+1)=cn xs i:=by rw [cn,h];rfl
theorem cn_nil (i:Nat):cn [] i=0:=by
 induction i with
 | zero=>rfl
 | succ i ih=>unfold cn;rw [ih];rfl
theorem hasB_cons (x:Int) (r:List Int) (y:Int):hasB (x :: r) y=(decide (y=x) || hasB r y):=by
 unfold hasB
 rw [Bool.eq_iff_iff]
 simp
theorem cn_cons (x:Int) (r:List Int) (hx:hasB r x=false) (h0:0≤x) (i:Nat):cn (x :: r) i=cn r i+(if x<(i:Int) then 1 else 0):=by
 induction i with
 | zero=>unfold cn;rw [if_neg (by omega)]
 | succ i ih =>
  unfold cn
  rw [ih,hasB_cons]
  by_cases e:(i:Int)=x
  ·rw [e,hx]
   simp
   omega
  ·have e':decide ((i:Int)=x)=false:=by simpa using e
   rw [e',Bool.false_or]
   have c1:(x<(i:Int))↔(x<((i+1:Nat):Int)):=by omega
   simp only [c1]
   omega
theorem risB_cons {m l x:Int} {r:List Int} (h:risB m l (x :: r)=true):l≤x∧x<m∧risB m (x+1) r=true:=by
 unfold risB at h
 split at h
 ·cases h
 ·exact ⟨by omega,by omega,h⟩
theorem risB_mk {m l x:Int} {r:List Int} (h1:l≤x) (h2:x<m) (h:risB m (x+1) r=true):risB m l (x :: r)=true:=by
 unfold risB
 rw [if_neg (by omega)]
 exact h
theorem risB_mem {m l:Int} {xs:List Int} (h:risB m l xs=true) {y:Int} (hy:y∈xs):l≤y∧y<m:=by
 induction xs generalizing l with
 | nil=>cases hy
 | cons x r ih =>
  obtain ⟨h1,h2,h3⟩:=risB_cons h
  rcases List.mem_cons.1 hy with rfl | hy
  ·exact ⟨h1,h2⟩
  ·have:=ih h3 hy
   exact ⟨by omega,this.2⟩
theorem cn_len {m l:Int} {xs:List Int} (h:risB m l xs=true) (hl:0≤l) {M:Nat} (hM:m=M):cn xs M=xs.length:=by
 induction xs generalizing l with
 | nil=>exact cn_nil M
 | cons x r ih =>
  obtain ⟨h1,h2,h3⟩:=risB_cons h
  have hx:hasB r x=false:=by
   rw [hasB,decide_eq_false_iff_not]
   intro hx
   have:=risB_mem h3 hx
   omega
  rw [cn_cons x r hx (by omega),ih h3 (by omega),if_pos (by omega),List.length_cons]
end Go.Proofs.YtfhefofkhmkcnaaGreatDoor

/-
  Plain facts on the bits of a natural number: setting, clearing, counting, the first bit that isn't set, a mask; no condition on the program, none of it is named here.
-/
namespace Go.Proofs.YtfhefofkhmkcnaaGreatDoor
set_option maxRecDepth 100000
set_option maxRecDepth 100000

def pw (i : Nat) : Nat := 2 ^ i
def setb (X i : Nat) : Nat := X ||| 2 ^ i
def clrb (X i : Nat) : Nat := X &&& (18446744073709551615 - 2 ^ i)
def frst (X : Nat) : Nat → Option Nat
  | 0 => none
  | n + 1 => match frst X n with
    | some i => some i
    | none => if X.testBit n then none else some n
def fi (X n : Nat) : Nat := (frst X n).getD 0
def fb (X n : Nat) : Bool := (frst X n).isSome

theorem frst_spec (X n : Nat) : match frst X n with
    | some i => i < n ∧ X.testBit i = false ∧ ∀ k, k < i → X.testBit k = true
    | none => ∀ k, k < n → X.testBit k = true := by
  induction n with
  | zero => simp [frst]
  | succ n ih =>
    simp only [frst]
    cases hf : frst X n with
    | some i => rw [hf] at ih; simp only at ih ⊢; exact ⟨by omega, ih.2⟩
    | none =>
      rw [hf] at ih; simp only at ih ⊢
      by_cases hb : X.testBit n = true
      · simp only [hb, if_true]
        intro k hk
        by_cases e : k = n
        · rw [e]; exact hb
        · exact ih k (by omega)
      · simp only [hb]
        exact ⟨by omega, by simpa using hb, ih⟩

theorem frst_some {X n i : Nat} (hi : i < n) (hb : X.testBit i = false) (ha : ∀ k, k < i → X.testBit k = true) : frst X n = some i := by
  have h := frst_spec X n
  cases hf : frst X n with
  | none => rw [hf] at h; simp only at h; rw [h i hi] at hb; simp at hb
  | some j =>
    rw [hf] at h; simp only at h
    obtain ⟨h1, h2, h3⟩ := h
    by_cases e : i < j
    · rw [h3 i e] at hb; simp at hb
    · by_cases e2 : j < i
      · rw [ha j e2] at h2; simp at h2
      · have : j = i := by omega
        rw [this]

theorem frst_none {X n : Nat} (ha : ∀ k, k < n → X.testBit k = true) : frst X n = none := by
  have h := frst_spec X n
  cases hf : frst X n with
  | none => rfl
  | some j => rw [hf] at h; simp only at h; rw [ha j h.1] at h; simp at h

theorem f_yes {X n : Nat} (h : fb X n = true) : fi X n < n ∧ X.testBit (fi X n) = false ∧ ∀ k, k < fi X n → X.testBit k = true := by
  have s := frst_spec X n
  unfold fi fb at *
  cases hf : frst X n with
  | none => rw [hf] at h; simp at h
  | some j => rw [hf] at s; simp only at s; simpa using s

theorem f_no {X n : Nat} (h : fb X n = false) : fi X n = 0 ∧ ∀ k, k < n → X.testBit k = true := by
  have s := frst_spec X n
  unfold fi fb at *
  cases hf : frst X n with
  | some j => rw [hf] at h; simp at h
  | none => rw [hf] at s; simp only at s; exact ⟨rfl, s⟩

theorem fi_of {X n i : Nat} (hi : i < n) (hb : X.testBit i = false) (ha : ∀ k, k < i → X.testBit k = true) : fi X n = i ∧ fb X n = true := by
  unfold fi fb; rw [frst_some hi hb ha]; exact ⟨rfl, rfl⟩
theorem fi_not {X n : Nat} (ha : ∀ k, k < n → X.testBit k = true) : fi X n = 0 ∧ fb X n = false := by
  unfold fi fb; rw [frst_none ha]; exact ⟨rfl, rfl⟩
theorem fi_le (X n : Nat) : fi X n ≤ n := by
  cases h : fb X n with
  | true => have := (f_yes h).1; omega
  | false => rw [(f_no h).1]; omega

theorem setb_bit (X i k : Nat) : (setb X i).testBit k = (X.testBit k || decide (i = k)) := by
  unfold setb; rw [Nat.testBit_or, Nat.testBit_two_pow]

theorem pow_lt64 {i : Nat} (h : i < 64) : 2 ^ i < 18446744073709551616 := by
  have : 2 ^ i < 2 ^ 64 := Nat.pow_lt_pow_right (by decide) h
  simpa using this
theorem pow_le64 {i : Nat} (h : i ≤ 64) : 2 ^ i ≤ 18446744073709551616 := by
  have : 2 ^ i ≤ 2 ^ 64 := Nat.pow_le_pow_right (by decide) h
  simpa using this

theorem setb_lt {X i : Nat} (hX : X < 18446744073709551616) (h : i < 64) : setb X i < 18446744073709551616 := by
  unfold setb
  have := Nat.or_lt_two_pow (n := 64) (x := X) (y := 2 ^ i) (by simpa using hX) (by simpa using pow_lt64 h)
  simpa using this
theorem clrb_lt {X i : Nat} (hX : X < 18446744073709551616) : clrb X i < 18446744073709551616 := by
  unfold clrb
  exact Nat.lt_of_le_of_lt Nat.and_le_left hX

theorem bit_high {X k : Nat} (hX : X < 18446744073709551616) (h : 64 ≤ k) : X.testBit k = false := by
  apply Nat.testBit_lt_two_pow
  exact Nat.lt_of_lt_of_le (by simpa using hX) (Nat.pow_le_pow_right (by decide) h)

theorem ones_bit (k : Nat) : (18446744073709551615 : Nat).testBit k = decide (k < 64) := by
  have : (18446744073709551615 : Nat) = 2 ^ 64 - 1 := by decide
  rw [this, Nat.testBit_two_pow_sub_one]

theorem not_bit {Y k : Nat} (hY : Y < 18446744073709551616) : (18446744073709551615 - Y).testBit k = (decide (k < 64) && !Y.testBit k) := by
  have e : 18446744073709551615 - Y = 2 ^ 64 - (Y + 1) := by omega
  rw [e, Nat.testBit_two_pow_sub_succ (by simpa using hY)]

theorem clrb_bit {X i : Nat} (hX : X < 18446744073709551616) (h : i < 64) (k : Nat) : (clrb X i).testBit k = (X.testBit k && !decide (i = k)) := by
  unfold clrb
  rw [Nat.testBit_and, not_bit (pow_lt64 h), Nat.testBit_two_pow]
  by_cases hk : k < 64
  · simp [hk]
  · rw [bit_high hX (by omega)]; simp

theorem mask_bit (n k : Nat) : (2 ^ n - 1).testBit k = decide (k < n) := Nat.testBit_two_pow_sub_one n k

theorem setb_mask (n : Nat) : setb (2 ^ n - 1) n = 2 ^ (n + 1) - 1 := by
  apply Nat.eq_of_testBit_eq
  intro k
  rw [setb_bit, mask_bit, mask_bit]
  by_cases h : k < n
  · have : k < n + 1 := by omega
    simp [h, this]
  · by_cases e : n = k
    · subst e; simp
    · have : ¬ k < n + 1 := by omega
      simp [h, e, this]

theorem bit_div (X i : Nat) : X.testBit i = decide (X / 2 ^ i % 2 = 1) := Nat.testBit_eq_decide_div_mod_eq

theorem and_pow (X i : Nat) : X &&& 2 ^ i = (X.testBit i).toNat * 2 ^ i := by
  apply Nat.eq_of_testBit_eq
  intro k
  rw [Nat.testBit_and, Nat.testBit_two_pow]
  cases h : X.testBit i
  · simp
    intro h1 h2; subst h2; rw [h] at h1; simp at h1
  · simp [Nat.testBit_two_pow]
    intro h2; subst h2; exact h

theorem and_pow_zero (X i : Nat) : ((X &&& 2 ^ i) != 0) = X.testBit i := by
  rw [and_pow]
  have : 0 < 2 ^ i := Nat.two_pow_pos i
  cases h : X.testBit i
  · simp
  · simp

theorem setb_add {X i : Nat} (hX : X < 18446744073709551616) (hi : i < 64) (h : X.testBit i = false) : setb X i = X + 2 ^ i := by
  unfold setb
  have hp := pow_lt64 hi
  have hd : X &&& 2 ^ i = 0 := by rw [and_pow, h]; simp
  have e := BitVec.add_eq_or_of_and_eq_zero (BitVec.ofNat 66 X) (BitVec.ofNat 66 (2 ^ i)) (by
    apply BitVec.eq_of_toNat_eq
    rw [BitVec.toNat_and, BitVec.toNat_ofNat, BitVec.toNat_ofNat, Nat.mod_eq_of_lt (by omega), Nat.mod_eq_of_lt (by omega), hd]; rfl)
  have e2 := congrArg BitVec.toNat e
  rw [BitVec.toNat_or, BitVec.toNat_add, BitVec.toNat_ofNat, BitVec.toNat_ofNat, Nat.mod_eq_of_lt (a := X) (by omega), Nat.mod_eq_of_lt (a := 2 ^ i) (by omega), Nat.mod_eq_of_lt (by omega)] at e2
  exact e2.symm
theorem setb_same {X i : Nat} (h : X.testBit i = true) : setb X i = X := by
  apply Nat.eq_of_testBit_eq
  intro k
  rw [setb_bit]
  by_cases e : i = k
  · subst e; simp [h]
  · simp [e]
theorem clrb_same {X i : Nat} (hX : X < 18446744073709551616) (hi : i < 64) (h : X.testBit i = false) : clrb X i = X := by
  apply Nat.eq_of_testBit_eq
  intro k
  rw [clrb_bit hX hi]
  by_cases e : i = k
  · subst e; simp [h]
  · simp [e]
theorem setb_clrb {X i : Nat} (hX : X < 18446744073709551616) (hi : i < 64) (h : X.testBit i = true) : setb (clrb X i) i = X := by
  apply Nat.eq_of_testBit_eq
  intro k
  rw [setb_bit, clrb_bit hX hi]
  by_cases e : i = k
  · subst e; simp [h]
  · simp [e]
theorem clrb_sub {X i : Nat} (hX : X < 18446744073709551616) (hi : i < 64) (h : X.testBit i = true) : clrb X i + 2 ^ i = X := by
  rw [← setb_add (clrb_lt hX) hi (by rw [clrb_bit hX hi]; simp), setb_clrb hX hi h]
end Go.Proofs.YtfhefofkhmkcnaaGreatDoor

/-
 What each function of package bits,and each of the document's own bits,answers,for words below 2^64,places below 64 and numbers up to 64: the world is as it was.
-/
namespace Go.Proofs.YtfhefofkhmkcnaaGreatDoor
set_option maxRecDepth 100000
set_option maxRecDepth 100000
open Go.RowKit
set_option maxHeartbeats 8000000
theorem ret_ib {a c:Int} {b d:Bool} (h:a=c) (g:b=d):Ending.returned (.tuple #[.int .i64 a,.bool b])=.returned (.tuple #[.int .i64 c,.bool d]):=by rw [h,g]
theorem pw_lt {i:Nat} (h:i<64):pw i<18446744073709551616:=pow_lt64 h
theorem and_ne (X i:Nat) (hX:X<18446744073709551616) (hi:i<64):(Go.bits .and .u64 (X:Int) (pw i:Nat) != 0)=X.testBit i:=by
 rw [u64_and_nat X (pw i) hX (pw_lt hi),← and_pow_zero X i]
 unfold pw
 rw [Bool.eq_iff_iff];simp only [bne_iff_ne,ne_eq];omega

theorem only_any (i:Nat) (hi:i<64) (w:World) :
  Calls Tryz.prog 76 #[.int .i64 i] w fun e w'=>e=.returned (.int .u64 (pw i:Nat))∧w=w':=by
 go_enter Tryz.func76,Tryz.ntmps76
 go_wp2
 go_ret
 refine ⟨ret_int ?_,rfl⟩
 have h:=pw_lt hi
 have e:(2:Int) ^ i=((pw i:Nat):Int):=by unfold pw;simp
 rw [e,IntKind.wrap_u64]
 omega
theorem below_any (n:Nat) (hn:n≤64) (w:World) :
  Calls Tryz.prog 59 #[.int .i64 n] w fun e w'=>e=.returned (.int .i64 n)∧w=w':=by
 go_enter Tryz.func59,Tryz.ntmps59
 go_wp2
 go_ret
 exact ⟨rfl,rfl⟩
theorem has_any (X i:Nat) (hX:X<18446744073709551616) (hi:i<64) (w:World) :
  Calls Tryz.prog 84 #[.int .u64 X,.int .i64 i] w fun e w'=>e=.returned (.bool (X.testBit i))∧w=w':=by
 go_enter Tryz.func84,Tryz.ntmps84
 go_wp2_with (go_at_call 76;refine (only_any _ hi _).mono ?_;rintro e w' ⟨rfl,rfl⟩)
 go_ret
 exact ⟨ret_bool (and_ne X i hX hi),rfl⟩
theorem set_any (X i:Nat) (hX:X<18446744073709551616) (hi:i<64) (w:World) :
  Calls Tryz.prog 60 #[.int .u64 X,.int .i64 i] w fun e w'=>e=.returned (.int .u64 (setb X i))∧w=w':=by
 go_enter Tryz.func60,Tryz.ntmps60
 go_wp2_with (go_at_call 76;refine (only_any _ hi _).mono ?_;rintro e w' ⟨rfl,rfl⟩)
 go_ret
 exact ⟨ret_int (u64_or_nat X (pw i) hX (pw_lt hi)),rfl⟩
theorem clear_any (X i:Nat) (hX:X<18446744073709551616) (hi:i<64) (w:World) :
  Calls Tryz.prog 66 #[.int .u64 X,.int .i64 i] w fun e w'=>e=.returned (.int .u64 (clrb X i))∧w=w':=by
 go_enter Tryz.func66,Tryz.ntmps66
 go_wp2_with (go_at_call 76;refine (only_any _ hi _).mono ?_;rintro e w' ⟨rfl,rfl⟩)
 go_ret
 exact ⟨ret_int (u64_andNot_nat X (pw i) hX (pw_lt hi)),rfl⟩
theorem first_any (X n:Nat) (hX:X<18446744073709551616) (hn:n≤64) (w:World) :
  Calls Tryz.prog 78 #[.int .u64 X,.int .i64 n] w fun e w'=>e=.returned (.tuple #[.int .i64 (fi X n),.bool (fb X n)])∧w=w':=by
 go_enter Tryz.func78,Tryz.ntmps78
 go_wp2_with (go_at_call 59;refine (below_any _ hn _).mono ?_;rintro e w' ⟨rfl,rfl⟩)
 go_loop [9] (fun i=>∃ j:Nat,j≤n∧i=.int .i64 j∧Hid (∀ k,k<j→X.testBit k=true)) (fun i=>n - (intOf i).toNat)
 case atStart=>exact ⟨0,Nat.zero_le _,rfl,Lib.hid (fun k hk=>by omega)⟩
 case round =>
  obtain ⟨j,hj,rfl,ha⟩:=hrel
  by_cases hlt:j<n
  ·cases hb:X.testBit j with
   | true =>
    have hasj:∀ w,Calls Tryz.prog 84 #[.int .u64 X,.int .i64 j] w fun e w'=>e=.returned (.bool true)∧w=w':=fun w=>hb ▸ has_any X j hX (by omega) w
    have HB:=Lib.hid hb;clear hb
    go_wp2_with (go_at_call 84;refine (hasj _).mono ?_;rintro e w' ⟨rfl,rfl⟩)
    go_round
    case rel=>exact ⟨j+1,by omega,by go_num,Lib.hid (fun k hk=>by
     by_cases e:k=j
     ·rw [e];exact HB.out
     ·exact ha.out k (by omega))⟩
    case measure=>simp [intOf];omega
   | false =>
    have hasj:∀ w,Calls Tryz.prog 84 #[.int .u64 X,.int .i64 j] w fun e w'=>e=.returned (.bool false)∧w=w':=fun w=>hb ▸ has_any X j hX (by omega) w
    have HB:=Lib.hid hb;clear hb
    go_wp2_with (go_at_call 84;refine (hasj _).mono ?_;rintro e w' ⟨rfl,rfl⟩)
    go_ret2
    have f:=fi_of hlt HB.out ha.out
    exact ⟨ret_ib (by rw [f.1]) f.2.symm,rfl⟩
  ·go_wp2
   go_ret2
   have e:j=n:=by omega
   have f:=fi_not (X:=X) (n:=n) (fun k hk=>ha.out k (by omega))
   exact ⟨ret_ib (by rw [f.1];rfl) f.2.symm,rfl⟩
def msk (n:Nat):Nat:=2 ^ n - 1
theorem msk_lt {n:Nat} (hn:n≤64):msk n<18446744073709551616:=by
 have:=pow_le64 hn;have:=Nat.two_pow_pos n;unfold msk;omega
theorem mask_any (n:Nat) (hn:n≤64) (w:World) :
  Calls Tryz.prog 28 #[.int .i64 n] w fun e w'=>e=.returned (.int .u64 (msk n))∧w=w':=by
 go_enter Tryz.func28,Tryz.ntmps28
 go_wp2_with (go_at_call 59;refine (below_any _ hn _).mono ?_;rintro e w' ⟨rfl,rfl⟩)
 go_loop [3,7] (fun m i=>∃ j:Nat,j≤n∧i=.int .i64 j∧m=.int .u64 (msk j)) (fun _ i=>n - (intOf i).toNat)
 case atStart=>exact ⟨0,Nat.zero_le _,rfl,rfl⟩
 case round =>
  obtain ⟨j,hj,rfl,rfl⟩:=hrel
  by_cases hlt:j<n
  ·go_wp2_with (go_at_call 60;refine (set_any _ _ (msk_lt (by omega)) (by omega) _).mono ?_;rintro e w' ⟨rfl,rfl⟩)
   go_round
   case rel=>exact ⟨j+1,by omega,by go_num,by rw [show setb (msk j) j=msk (j+1) from setb_mask j]⟩
   case measure=>simp [intOf];omega
  ·go_wp2
   go_ret
   have e:j=n:=by omega
   subst e
   exact ⟨rfl,rfl⟩
theorem pow_any (i:Nat) (hi:i<64) (w:World) :
  Calls Tryz.prog 68 #[.int .i64 i] w fun e w'=>e=.returned (.int .u64 (pw i:Nat))∧w=w':=by
 go_enter Tryz.func68,Tryz.ntmps68
 go_wp2
 go_loop [3,4] (fun p k=>∃ j:Nat,j≤i∧k=.int .i64 j∧p=.int .u64 (pw j:Nat)) (fun _ k=>i - (intOf k).toNat)
 case atStart=>exact ⟨0,Nat.zero_le _,rfl,rfl⟩
 case round =>
  obtain ⟨j,hj,rfl,rfl⟩:=hrel
  by_cases hlt:j<i
  ·have h1:pw (j+1)<18446744073709551616:=pw_lt (by omega)
   have h2:pw (j+1)=pw j*2:=by unfold pw;rw [Nat.pow_succ]
   have h3:pw j*2<18446744073709551616:=by omega
   have H2:=Lib.hid h2
   clear h2
   go_wp2
   go_round
   case rel=>exact ⟨j+1,by omega,by go_num,by rw [H2.out];go_num⟩
   case measure=>simp [intOf];omega
  ·go_wp2
   go_ret
   have:j=i:=by omega
   subst this
   exact ⟨rfl,rfl⟩
theorem bit_eq (X i:Nat) (hX:X<18446744073709551616):((IntKind.u64.wrap ((X:Int)/(pw i:Nat))).tmod 2 == 1)=X.testBit i:=by
 have e:(X:Int)/(pw i:Nat)=((X/pw i:Nat):Int):=by simp
 have hl:X/pw i≤X:=Nat.div_le_self _ _
 rw [e,IntKind.wrap_u64,bit_div]
 show _=decide (X/pw i%2=1)
 generalize X/pw i=q at *
 have e2:(q:Int)%18446744073709551616=q:=by omega
 rw [e2,Int.tmod_eq_emod_of_nonneg (by omega),Bool.eq_iff_iff]
 simp only [beq_iff_eq,decide_eq_true_eq]
 omega
theorem rhas_any (X i:Nat) (hX:X<18446744073709551616) (hi:i<64) (w:World) :
  Calls Tryz.prog 33 #[.int .u64 X,.int .i64 i] w fun e w'=>e=.returned (.bool (X.testBit i))∧w=w':=by
 have hp:0<pw i:=Nat.two_pow_pos i
 go_enter Tryz.func33,Tryz.ntmps33
 go_wp2_with (go_at_call 68;refine (pow_any _ hi _).mono ?_;rintro e w' ⟨rfl,rfl⟩)
 go_ret
 exact ⟨ret_bool (bit_eq X i hX),rfl⟩
theorem rset_any (X i:Nat) (hX:X<18446744073709551616) (hi:i<64) (w:World) :
  Calls Tryz.prog 70 #[.int .u64 X,.int .i64 i] w fun e w'=>e=.returned (.int .u64 (setb X i))∧w=w':=by
 cases hb:X.testBit i with
 | true =>
  have hasj:∀ w,Calls Tryz.prog 33 #[.int .u64 X,.int .i64 i] w fun e w'=>e=.returned (.bool true)∧w=w':=fun w=>hb ▸ rhas_any X i hX (by omega) w
  have HB:=Lib.hid hb;clear hb
  go_enter Tryz.func70,Tryz.ntmps70
  go_wp2_with (go_at_call 33;refine (hasj _).mono ?_;rintro e w' ⟨rfl,rfl⟩)
  go_ret
  exact ⟨ret_int (by rw [setb_same HB.out]),rfl⟩
 | false =>
  have hasj:∀ w,Calls Tryz.prog 33 #[.int .u64 X,.int .i64 i] w fun e w'=>e=.returned (.bool false)∧w=w':=fun w=>hb ▸ rhas_any X i hX (by omega) w
  have hl:X+pw i<18446744073709551616:=by have:=setb_lt hX hi;rw [setb_add hX hi hb] at this;exact this
  have HB:=Lib.hid hb;clear hb
  go_enter Tryz.func70,Tryz.ntmps70
  go_wp2_with (first
   | (go_at_call 33;refine (hasj _).mono ?_;rintro e w' ⟨rfl,rfl⟩)
   | (go_at_call 68;refine (pow_any _ hi _).mono ?_;rintro e w' ⟨rfl,rfl⟩))
  go_ret
  refine ⟨ret_int ?_,rfl⟩
  rw [setb_add hX hi HB.out]
  show _=((X+pw i:Nat):Int)
  first | rfl | (rw [IntKind.wrap_u64];omega)
theorem rclear_any (X i:Nat) (hX:X<18446744073709551616) (hi:i<64) (w:World) :
  Calls Tryz.prog 69 #[.int .u64 X,.int .i64 i] w fun e w'=>e=.returned (.int .u64 (clrb X i))∧w=w':=by
 cases hb:X.testBit i with
 | true =>
  have hasj:∀ w,Calls Tryz.prog 33 #[.int .u64 X,.int .i64 i] w fun e w'=>e=.returned (.bool true)∧w=w':=fun w=>hb ▸ rhas_any X i hX (by omega) w
  have hc:clrb X i+pw i=X:=clrb_sub hX hi hb
  have hl:pw i≤X:=by omega
  have HC:=Lib.hid hc;clear hc
  have HB:=Lib.hid hb;clear hb
  go_enter Tryz.func69,Tryz.ntmps69
  go_wp2_with (first
   | (go_at_call 33;refine (hasj _).mono ?_;rintro e w' ⟨rfl,rfl⟩)
   | (go_at_call 68;refine (pow_any _ hi _).mono ?_;rintro e w' ⟨rfl,rfl⟩))
  go_ret
  refine ⟨ret_int ?_,rfl⟩
  have hc:=HC.out
  first | omega | (rw [IntKind.wrap_u64];omega)
 | false =>
  have hasj:∀ w,Calls Tryz.prog 33 #[.int .u64 X,.int .i64 i] w fun e w'=>e=.returned (.bool false)∧w=w':=fun w=>hb ▸ rhas_any X i hX (by omega) w
  have HB:=Lib.hid hb;clear hb
  go_enter Tryz.func69,Tryz.ntmps69
  go_wp2_with (go_at_call 33;refine (hasj _).mono ?_;rintro e w' ⟨rfl,rfl⟩)
  go_ret
  exact ⟨ret_int (by rw [clrb_same hX hi HB.out]),rfl⟩
end Go.Proofs.YtfhefofkhmkcnaaGreatDoor

/-
 What each function of package place,and each of the document's own places,answers,for numbers of addresses up to 65536 and leaves up to 2048: the world is as it was.
-/
namespace Go.Proofs.YtfhefofkhmkcnaaGreatDoor
set_option maxRecDepth 100000
set_option maxRecDepth 100000
open Go.RowKit
set_option maxHeartbeats 8000000
theorem ret_ii {a b c d:Int} (h:a=c) (g:b=d):Ending.returned (.tuple #[.int .i64 a,.int .i64 b])=.returned (.tuple #[.int .i64 c,.int .i64 d]):=by rw [h,g]
/-- How many leaves n addresses have. -/
def lv (n:Nat):Nat:=(n+31)/32
/-- How many tops so many leaves have. -/
def tq (l:Nat):Nat:=(l+63)/64
/-- How many tops n addresses have. -/
def tv (n:Nat):Nat:=tq (lv n)
/-- A leaf's width. -/
def wd (n l:Nat):Nat:=min (n - 32*l) 32
theorem lv_le {n:Nat} (h:n≤65536):lv n≤2048:=by unfold lv;omega
theorem tv_le {n:Nat} (h:n≤65536):tv n≤32:=by have:=lv_le h;unfold tv tq;omega
theorem parts_32 (n:Nat) (hn:n≤65536) (w:World) :
  Calls Tryz.prog 58 #[.int .i64 n,.int .i64 32] w fun e w'=>e=.returned (.int .i64 (lv n))∧w=w':=by
 obtain ⟨q,hq,hq'⟩:∃ q:Nat,(n:Int)/32=q∧q=n/32:=⟨n/32,by omega,rfl⟩
 obtain ⟨r,hr,hr'⟩:∃ r:Nat,(n:Int)%32=r∧r=n%32:=⟨n%32,by omega,rfl⟩
 have hl:lv n=if r=0 then q else q+1:=by unfold lv;split <;> omega
 have hq2:q≤2048:=by omega
 have HQ:=Lib.hid hq';have HR:=Lib.hid hr';have HL:=Lib.hid hl
 clear hq' hr' hl
 by_cases h0:r=0
 ·subst h0
  go_enter Tryz.func58,Tryz.ntmps58
  go_wp2
  go_ret
  exact ⟨ret_int (by rw [HL.out];simp),rfl⟩
 ·have h1:0<r:=by omega
  go_enter Tryz.func58,Tryz.ntmps58
  go_wp2
  go_ret
  exact ⟨ret_int (by rw [HL.out,if_neg h0];go_num),rfl⟩
theorem parts_64 (n:Nat) (hn:n≤65536) (w:World) :
  Calls Tryz.prog 58 #[.int .i64 n,.int .i64 64] w fun e w'=>e=.returned (.int .i64 (tq n))∧w=w':=by
 obtain ⟨q,hq,hq'⟩:∃ q:Nat,(n:Int)/64=q∧q=n/64:=⟨n/64,by omega,rfl⟩
 obtain ⟨r,hr,hr'⟩:∃ r:Nat,(n:Int)%64=r∧r=n%64:=⟨n%64,by omega,rfl⟩
 have hl:tq n=if r=0 then q else q+1:=by unfold tq;split <;> omega
 have hq2:q≤2048:=by omega
 have HQ:=Lib.hid hq';have HR:=Lib.hid hr';have HL:=Lib.hid hl
 clear hq' hr' hl
 by_cases h0:r=0
 ·subst h0
  go_enter Tryz.func58,Tryz.ntmps58
  go_wp2
  go_ret
  exact ⟨ret_int (by rw [HL.out];simp),rfl⟩
 ·have h1:0<r:=by omega
  go_enter Tryz.func58,Tryz.ntmps58
  go_wp2
  go_ret
  exact ⟨ret_int (by rw [HL.out,if_neg h0];go_num),rfl⟩
theorem leaves_any (n:Nat) (hn:n≤65536) (w:World) :
  Calls Tryz.prog 27 #[.int .i64 n] w fun e w'=>e=.returned (.int .i64 (lv n))∧w=w':=by
 go_enter Tryz.func27,Tryz.ntmps27
 go_wp2_with (go_at_call 58;refine (parts_32 _ hn _).mono ?_;rintro e w' ⟨rfl,rfl⟩)
 go_ret
 exact ⟨rfl,rfl⟩
theorem tops_any (n:Nat) (hn:n≤65536) (w:World) :
  Calls Tryz.prog 75 #[.int .i64 n] w fun e w'=>e=.returned (.int .i64 (tv n))∧w=w':=by
 have h1:=lv_le hn
 have h2:lv n≤65536:=by omega
 go_enter Tryz.func75,Tryz.ntmps75
 go_wp2_with (first
  | ((with_reducible refine (leaves_any _ hn _).mono ?_);rintro e w' ⟨rfl,rfl⟩)
  | ((with_reducible refine (parts_64 _ h2 _).mono ?_);rintro e w' ⟨rfl,rfl⟩))
 go_ret
 exact ⟨rfl,rfl⟩
theorem root_any (n:Nat) (hn:n≤65536) (w:World) :
  Calls Tryz.prog 57 #[.int .i64 n] w fun e w'=>e=.returned (.int .i64 ((lv n+tv n:Nat)))∧w=w':=by
 have h1:=lv_le hn
 have h2:=tv_le hn
 go_enter Tryz.func57,Tryz.ntmps57
 go_wp2_with (first
  | ((with_reducible refine (leaves_any _ hn _).mono ?_);rintro e w' ⟨rfl,rfl⟩)
  | ((with_reducible refine (tops_any _ hn _).mono ?_);rintro e w' ⟨rfl,rfl⟩))
 go_ret
 exact ⟨ret_int (by go_num),rfl⟩
theorem cells_any (n:Nat) (hn:n≤65536) (w:World) :
  Calls Tryz.prog 26 #[.int .i64 n] w fun e w'=>e=.returned (.int .i64 ((lv n+tv n+1:Nat)))∧w=w':=by
 have h1:=lv_le hn
 have h2:=tv_le hn
 go_enter Tryz.func26,Tryz.ntmps26
 go_wp2_with (go_at_call 57;refine (root_any _ hn _).mono ?_;rintro e w' ⟨rfl,rfl⟩)
 go_ret
 exact ⟨ret_int (by go_num),rfl⟩
theorem leaf_any (o:Nat) (ho:o≤65536) (w:World) :
  Calls Tryz.prog 62 #[.int .i64 o] w fun e w'=>e=.returned (.tuple #[.int .i64 ((o/32:Nat)),.int .i64 ((o%32:Nat))])∧w=w':=by
 go_enter Tryz.func62,Tryz.ntmps62
 go_wp2
 go_ret2
 exact ⟨ret_ii (by go_num) (by go_num),rfl⟩
theorem poff_any (l b:Nat) (hl:l≤65536) (hb:b≤65536) (w:World) :
  Calls Tryz.prog 77 #[.int .i64 l,.int .i64 b] w fun e w'=>e=.returned (.int .i64 ((32*l+b:Nat)))∧w=w':=by
 go_enter Tryz.func77,Tryz.ntmps77
 go_wp2
 go_ret
 exact ⟨ret_int (by go_num),rfl⟩
theorem summed_any (l:Nat) (hl:l≤65536) (w:World) :
  Calls Tryz.prog 79 #[.int .i64 l] w fun e w'=>e=.returned (.tuple #[.int .i64 ((l/64:Nat)),.int .i64 ((l%64:Nat))])∧w=w':=by
 go_enter Tryz.func79,Tryz.ntmps79
 go_wp2
 go_ret2
 exact ⟨ret_ii (by go_num) (by go_num),rfl⟩
theorem top_any (n l:Nat) (hn:n≤65536) (hl:l≤65536) (w:World) :
  Calls Tryz.prog 65 #[.int .i64 n,.int .i64 l] w fun e w'=>e=.returned (.tuple #[.int .i64 ((lv n+l/64:Nat)),.int .i64 ((l%64:Nat))])∧w=w':=by
 have h1:=lv_le hn
 obtain ⟨q,hq⟩:∃ q:Nat,q=l/64:=⟨_,rfl⟩
 obtain ⟨r,hr⟩:∃ r:Nat,r=l%64:=⟨_,rfl⟩
 have hq2:q≤65536:=by omega
 have S:∀ w,Hid (Calls Tryz.prog 79 #[.int .i64 l] w fun e w'=>e=.returned (.tuple #[.int .i64 (q:Nat),.int .i64 (r:Nat)])∧w=w'):=fun w=>by rw [hq,hr];exact summed_any l hl w
 have HQ:=Lib.hid hq;have HR:=Lib.hid hr
 clear hq hr
 go_enter Tryz.func65,Tryz.ntmps65
 go_wp2_with (first
  | ((with_reducible refine (leaves_any _ hn _).mono ?_);rintro e w' ⟨rfl,rfl⟩)
  | ((with_reducible refine ((S _).out).mono ?_);rintro e w' ⟨rfl,rfl⟩))
 go_ret2
 exact ⟨ret_ii (by rw [← HQ.out];go_num) (by rw [← HR.out]),rfl⟩
theorem rootof_any (n l:Nat) (hn:n≤65536) (hl:l≤65536) (w:World) :
  Calls Tryz.prog 67 #[.int .i64 n,.int .i64 l] w fun e w'=>e=.returned (.tuple #[.int .i64 ((lv n+tv n:Nat)),.int .i64 ((l/64:Nat))])∧w=w':=by
 have R:=fun w=>Lib.hid (root_any n hn w)
 have h1:=lv_le hn
 have h2:=tv_le hn
 obtain ⟨q,hq⟩:∃ q:Nat,q=l/64:=⟨_,rfl⟩
 obtain ⟨r,hr⟩:∃ r:Nat,r=l%64:=⟨_,rfl⟩
 have S:∀ w,Hid (Calls Tryz.prog 79 #[.int .i64 l] w fun e w'=>e=.returned (.tuple #[.int .i64 (q:Nat),.int .i64 (r:Nat)])∧w=w'):=fun w=>by rw [hq,hr];exact summed_any l hl w
 have HQ:=Lib.hid hq
 clear hq hr
 go_enter Tryz.func67,Tryz.ntmps67
 go_wp2_with (first
  | ((with_reducible refine ((R _).out).mono ?_);rintro e w' ⟨rfl,rfl⟩)
  | ((with_reducible refine ((S _).out).mono ?_);rintro e w' ⟨rfl,rfl⟩))
 go_ret2
 exact ⟨ret_ii (by go_num) (by rw [← HQ.out]),rfl⟩
theorem width_any (n l:Nat) (hn:n≤65536) (hl:l≤65536) (w:World) :
  Calls Tryz.prog 61 #[.int .i64 n,.int .i64 l] w fun e w'=>e=.returned (.int .i64 (wd n l))∧w=w':=by
 have O:∀ w,Hid (Calls Tryz.prog 77 #[.int .i64 l,.int .i64 0] w fun e w'=>e=.returned (.int .i64 ((32*l:Nat)))∧w=w'):=fun w=>poff_any l 0 hl (by omega) w
 obtain ⟨o,ho⟩:∃ o:Nat,o=32*l:=⟨_,rfl⟩
 rw [← ho] at O
 have ho2:o≤4000000:=by omega
 have HO:=Lib.hid ho
 clear ho
 go_enter Tryz.func61,Tryz.ntmps61
 go_wp2_with (go_at_call 77;refine ((O _).out).mono ?_;rintro e w' ⟨rfl,rfl⟩)
 all_goals
  go_ret
  exact ⟨ret_int (by unfold wd;rw [← HO.out];omega),rfl⟩
end Go.Proofs.YtfhefofkhmkcnaaGreatDoor

/-
 What each of the document's own places answers,for numbers of addresses up to 65536 and leaves up to 2048: the world is as it was.
-/
namespace Go.Proofs.YtfhefofkhmkcnaaGreatDoor
set_option maxRecDepth 100000
set_option maxRecDepth 100000
open Go.RowKit
set_option maxHeartbeats 8000000
theorem rleaves_any (n:Nat) (hn:n≤65536) (w:World) :
  Calls Tryz.prog 37 #[.int .i64 n] w fun e w'=>e=.returned (.int .i64 (lv n))∧w=w':=by
 have hl:n≤32*lv n∧32*lv n<n+32:=by unfold lv;omega
 have hl2:=lv_le hn
 generalize lv n=m at *
 go_enter Tryz.func37,Tryz.ntmps37
 go_wp2
 go_loop [3] (fun i=>∃ k:Nat,k≤m∧i=.int .i64 k) (fun i=>m - (intOf i).toNat)
 case atStart=>exact ⟨0,Nat.zero_le _,rfl⟩
 case round =>
  obtain ⟨k,hk,rfl⟩:=hrel
  by_cases hlt:k<m
  ·have h1:32*k<n:=by omega
   go_wp2
   go_round
   case rel=>exact ⟨k+1,by omega,by go_num⟩
   case measure=>simp [intOf];omega
  ·obtain rfl:k=m:=by omega
   have h1:¬ 32*k<n:=by omega
   go_wp2
   go_ret
   exact ⟨rfl,rfl⟩
end Go.Proofs.YtfhefofkhmkcnaaGreatDoor
