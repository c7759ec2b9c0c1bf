/-
  What the functions that these laws call answer, and what follows of it; conditions: those that each theorem names. In this file: CellCalls, CellOps, CellRefs, WordMath, WordCalls.
-/
import Derived.Test.YtfhefofkhmkcnaaGreatDoorPl5
import Derived.RegionTactic
/-
 What each function of package cells answers,as lists: the world grows,and nothing that was there is otherwise. Conditions: at most 65536 cells;words below 2^64.
-/
namespace Go.Proofs.YtfhefofkhmkcnaaGreatDoor
set_option maxRecDepth 100000
set_option maxRecDepth 100000
open Go.RowKit
set_option maxHeartbeats 8000000
theorem there_yes (A:Option Addr) (n c a:Nat) (h:a<n) (w:World) :
  Calls Tryz.prog 140 #[.slice A n c,.int .i64 (a:Nat)] w fun e w'=>e=.returned (.bool true)∧w=w':=by
 go_enter Tryz.func140,Tryz.ntmps140
 go_wp2
 go_ret
 exact ⟨rfl,rfl⟩
theorem there_no (A:Option Addr) (n c:Nat) (a:Int) (h:a<0∨(n:Int)≤a) (w:World) :
  Calls Tryz.prog 140 #[.slice A n c,.int .i64 a] w fun e w'=>e=.returned (.bool false)∧w=w':=by
 rcases h with h | h
 ·go_enter Tryz.func140,Tryz.ntmps140
  go_wp2
  go_ret
  exact ⟨rfl,rfl⟩
 ·have h0:0≤a:=by omega
  have hd:decide (a<(n:Int))=false:=by simp;omega
  go_enter Tryz.func140,Tryz.ntmps140
  go_wp2
  go_ret
  exact ⟨rfl,rfl⟩
theorem load_nat {w:World} {A:Option Addr} {n c:Nat} {xs:List Nat} (h:US w A n c xs) (a:Nat) (ha:a<n) :
  Calls Tryz.prog 124 #[.slice A n c,.int .i64 (a:Nat)] w fun e w'=>e=.returned (.int .u64 (gt xs a:Nat))∧w=w':=by
 obtain ⟨b,o,rfl,_,hc⟩:=h.get ha
 go_enter Tryz.func124,Tryz.ntmps124
 go_wp2_with (go_at_call 140;refine (there_yes _ _ _ _ ha _).mono ?_;rintro e w' ⟨rfl,rfl⟩)
 go_ret
 exact ⟨rfl,rfl⟩
theorem load_out {w:World} {A:Option Addr} {n c:Nat} (a:Int) (ha:a<0∨(n:Int)≤a) :
  Calls Tryz.prog 124 #[.slice A n c,.int .i64 a] w fun e w'=>e=.returned (.int .u64 0)∧w=w':=by
 have hno:∀ w,Calls Tryz.prog 140 #[.slice A n c,.int .i64 a] w fun e w'=>e=.returned (.bool false)∧w=w':=fun w=>there_no A n c a ha w
 clear ha
 go_enter Tryz.func124,Tryz.ntmps124
 go_wp2_with (go_at_call 140;refine (hno _).mono ?_;rintro e w' ⟨rfl,rfl⟩)
 go_ret
 exact ⟨rfl,rfl⟩
theorem load_any {w:World} {A:Option Addr} {n c:Nat} {xs:List Nat} (h:US w A n c xs) (a:Int) :
  Calls Tryz.prog 124 #[.slice A n c,.int .i64 a] w fun e w'=>e=.returned (.int .u64 (ldI xs a:Nat))∧w=w':=by
 by_cases ha:a<0∨(n:Int)≤a
 ·rw [ldI_out (by have:=h.len;omega)]
  exact load_out a ha
 ·obtain ⟨k,rfl⟩:∃ k:Nat,a=k:=⟨a.toNat,by omega⟩
  rw [ldI_nat]
  exact load_nat h k (by omega)
theorem clo_swap_yes {w:World} {v x g k:Nat} (hv:w.cell? ⟨g,0,none⟩=some (.int .u64 (v:Nat))) (hk:w.cell? ⟨k,0,none⟩=some (.int .u64 (x:Nat))) :
  Calls Tryz.prog 152 #[.int .u64 (x:Nat),.pointer (some ⟨g,0,none⟩),.pointer (some ⟨k,0,none⟩)] w fun e w'=>e=.returned (.tuple #[.int .u64 (v:Nat),.bool true])∧∃ m,w'=w.drewN m:=by
 have hx:((x:Int) == (x:Int))=true:=by simp
 go_enter Tryz.func152,Tryz.ntmps152
 go_wp2
 go_quiet (fail)
 go_wp2
 go_ret2
 exact ⟨rfl,_,rfl⟩
theorem clo_swap_no {w:World} {v x y g k:Nat} (hxy:x≠y) (hv:w.cell? ⟨g,0,none⟩=some (.int .u64 (v:Nat))) (hk:w.cell? ⟨k,0,none⟩=some (.int .u64 (y:Nat))) :
  Calls Tryz.prog 152 #[.int .u64 (x:Nat),.pointer (some ⟨g,0,none⟩),.pointer (some ⟨k,0,none⟩)] w fun e w'=>e=.returned (.tuple #[.int .u64 (v:Nat),.bool false])∧∃ m,w'=w.drewN m:=by
 have hx:((x:Int) == (y:Int))=false:=by simp;omega
 go_enter Tryz.func152,Tryz.ntmps152
 go_wp2
 go_quiet (fail)
 go_wp2
 go_ret2
 exact ⟨rfl,_,rfl⟩
theorem u64_info:(Tryz.prog.info? 41).map (fun i=>(i.zero,i.size,i.bytes))=some (some (.int .u64 0),1,8):=by kernel_rfl
theorem u64_size:(Tryz.prog.info? 41).map (·.size)=some 1:=by kernel_rfl
theorem drewN_below (w:World) (m:Nat):Below w.heap.size w (w.drewN m):=⟨rfl,rfl,rfl,Nat.le_refl _,fun _ _=>rfl⟩
theorem turn_swap_no {w:World} {A:Option Addr} {n c a v y g k:Nat} {xs:List Nat} (h:US w A n c xs) (ha:a<n) (hv:w.cell? ⟨g,0,none⟩=some (.int .u64 (v:Nat))) (hk:w.cell? ⟨k,0,none⟩=some (.int .u64 (y:Nat))) (hne:gt xs a≠y) :
  Calls Tryz.prog 151 #[.slice A n c,.int .i64 (a:Nat),.func (.func 152) #[] #[.pointer (some ⟨g,0,none⟩),.pointer (some ⟨k,0,none⟩)]] w fun e w'=>e=.returned (.tuple #[.slice A n c,.bool false])∧∃ m,w'=w.drewN m:=by
 obtain ⟨b,o,rfl,hb,hc⟩:=h.get ha
 go_enter Tryz.func151,Tryz.ntmps151
 go_wp2_with (first
  | (go_at_call 140;refine (there_yes _ _ _ _ ha _).mono ?_;rintro e w' ⟨rfl,rfl⟩)
  | (go_at_call 152;refine (clo_swap_no hne hv hk).mono ?_;rintro e w' ⟨rfl,m,rfl⟩))
 go_ret2
 exact ⟨rfl,_,rfl⟩
end Go.Proofs.YtfhefofkhmkcnaaGreatDoor

/-
 What Store,Add,Swap and New of package cells answer,as lists: the world grows,and nothing that was there is otherwise. Conditions: at most 65536 cells;words below 2^64.
-/
namespace Go.Proofs.YtfhefofkhmkcnaaGreatDoor
set_option maxRecDepth 100000
set_option maxRecDepth 100000
open Go.RowKit
set_option maxHeartbeats 8000000
def one (t:TypeId) (v:Nat):Obj:=.cells #[.int .u64 (v:Int)] t
theorem RetS.ret {n:Nat} {xs:List Nat} {w w1 w2:World} {A:Option Addr} {c:Nat} (h:US w2 A n c xs) (K1:Below w.heap.size w w1) (K2:Below w1.heap.size w1 w2):US w2 A n c xs∧Below w.heap.size w w2 :=
 ⟨h,K1.trans (K2.mono K1.size)⟩
end Go.Proofs.YtfhefofkhmkcnaaGreatDoor

/-
 What the document's own cells answer (Load,Set,Swap),and Same at one and the same list: the world grows,and nothing that was there is otherwise. Conditions: at most 65536 cells;words below 2^64.
-/
namespace Go.Proofs.YtfhefofkhmkcnaaGreatDoor
set_option maxRecDepth 100000
set_option maxRecDepth 100000
open Go.RowKit
set_option maxHeartbeats 8000000
def prt (xs:List Nat) (a:Int) (v k:Nat):List Nat:=if a<(k:Int) then stI xs a v else xs
theorem prt_0 (xs:List Nat) (a:Int) (v:Nat):prt xs a v 0=xs:=by
 unfold prt
 by_cases h:a<((0:Nat):Int)
 ·rw [if_pos h,stI_out v (by omega)]
 ·rw [if_neg h]
theorem prt_hit (xs:List Nat) (v k:Nat):prt xs k v (k+1)=(prt xs k v k).set k v:=by
 unfold prt
 rw [if_pos (by omega),if_neg (by omega),stI_nat]
theorem prt_miss (xs:List Nat) {a:Int} (v:Nat) {k:Nat} (h:(k:Int)≠a):prt xs a v (k+1)=prt xs a v k:=by
 unfold prt
 by_cases h1:a<(k:Int)
 ·rw [if_pos h1,if_pos (by omega)]
 ·rw [if_neg h1,if_neg (by omega)]
theorem prt_end {xs:List Nat} (a:Int) (v:Nat) {n:Nat} (hl:xs.length=n):prt xs a v n=stI xs a v:=by
 unfold prt
 by_cases h1:a<(n:Int)
 ·rw [if_pos h1]
 ·rw [if_neg h1,stI_out v (by omega)]
theorem same_any {w:World} {A A':Option Addr} {n c c':Nat} {xs:List Nat} (h:US w A n c xs) (h':US w A' n c' xs) (hn:n≤65536) :
  Calls Tryz.prog 53 #[.slice A n c,.slice A' n c'] w fun e w'=>e=.returned (.bool true)∧Below w.heap.size w w':=by
 have e0:((n:Int) != (n:Int))=false:=by simp
 go_enter Tryz.func53,Tryz.ntmps53
 go_wp2
 go_loopw [5] (fun i wr=>∃ k:Nat,k≤n∧i=.int .i64 k∧Below w.heap.size w wr) (fun i _=>n - (intOf i).toNat)
 case atStart=>exact ⟨0,Nat.zero_le _,rfl,Below.refl _ _⟩
 case round =>
  obtain ⟨k,hk,rfl,Kr⟩:=hrel
  by_cases hlt:k<n
  ·obtain ⟨b,o,rfl,_,hc⟩:=(h.below Kr).get hlt
   obtain ⟨b',o',rfl,_,hc'⟩:=(h'.below Kr).get hlt
   have e1:((gt xs k:Int) != (gt xs k:Int))=false:=by simp
   go_wp2
   go_quiet (fail)
   go_wp2
   go_roundw
   case rel=>exact ⟨k+1,by omega,by go_num,Kr.trans ((drewN_below _ _).mono Kr.size)⟩
   case measure=>simp [intOf];omega
  ·go_wp2
   go_ret
   exact ⟨rfl,Kr⟩
end Go.Proofs.YtfhefofkhmkcnaaGreatDoor

/-
  Plain facts on a leaf's word: claimed, dropped, changed once more, full; the first word of a leaf, and the cells of them, as lists of numbers. No program in it.
-/
namespace Go.Proofs.YtfhefofkhmkcnaaGreatDoor
set_option maxRecDepth 100000
set_option maxRecDepth 100000
theorem bit_low (X : Nat) {k : Nat} (hk : k < 32) : X.testBit k = (X % 4294967296).testBit k := by
  have := Nat.testBit_mod_two_pow X 32 k
  rw [show (2 : Nat) ^ 32 = 4294967296 by decide] at this
  rw [this]; simp [hk]
/-- The word, changed once more. -/
def ch (X : Nat) : Nat := (X + 4294967296) % 18446744073709551616
theorem ch_lt (X : Nat) : ch X < 18446744073709551616 := Nat.mod_lt _ (by decide)
theorem ch_low (X : Nat) : ch X % 4294967296 = X % 4294967296 := by unfold ch; omega
theorem ch_div (X : Nat) : ch X / 4294967296 = (X / 4294967296 + 1) % 4294967296 := by unfold ch; omega
theorem ch_bit (X : Nat) {k : Nat} (hk : k < 32) : (ch X).testBit k = X.testBit k := by rw [bit_low _ hk, ch_low, ← bit_low _ hk]
theorem high_div {X Y : Nat} (h : ∀ k, 32 ≤ k → X.testBit k = Y.testBit k) : X / 4294967296 = Y / 4294967296 := by
  apply Nat.eq_of_testBit_eq
  intro k
  rw [show 4294967296 = (2 : Nat) ^ 32 by decide, Nat.testBit_div_two_pow, Nat.testBit_div_two_pow]
  exact h _ (by omega)
theorem setb_div (X : Nat) {b : Nat} (hb : b < 32) : setb X b / 4294967296 = X / 4294967296 :=
  high_div (fun k hk => by rw [setb_bit]; have : ¬ b = k := by omega
                           simp [this])
theorem clrb_div {X b : Nat} (hX : X < 18446744073709551616) (hb : b < 32) : clrb X b / 4294967296 = X / 4294967296 :=
  high_div (fun k hk => by rw [clrb_bit hX (by omega)]; have : ¬ b = k := by omega
                           simp [this])
/-- The word claimed, dropped. -/
def clm (X b : Nat) : Nat := ch (setb X b)
def drp (X b : Nat) : Nat := ch (clrb X b)
theorem clm_lt (X b : Nat) : clm X b < 18446744073709551616 := ch_lt _
theorem drp_lt (X b : Nat) : drp X b < 18446744073709551616 := ch_lt _
/-- How often it was changed. -/
def cg (X : Nat) : Nat := X / 4294967296
theorem cg_clm (X : Nat) {b : Nat} (hb : b < 32) : cg (clm X b) = (cg X + 1) % 4294967296 := by
  unfold cg clm; rw [ch_div, setb_div X hb]
theorem cg_drp {X b : Nat} (hX : X < 18446744073709551616) (hb : b < 32) : cg (drp X b) = (cg X + 1) % 4294967296 := by
  unfold cg drp; rw [ch_div, clrb_div hX hb]
theorem cg_lt {X : Nat} (hX : X < 18446744073709551616) : cg X < 4294967296 := by unfold cg; omega
theorem clm_bit (X b : Nat) {k : Nat} (hk : k < 32) : (clm X b).testBit k = (X.testBit k || decide (b = k)) := by
  unfold clm; rw [ch_bit _ hk, setb_bit]
theorem drp_bit {X b : Nat} (hX : X < 18446744073709551616) (hb : b < 32) {k : Nat} (hk : k < 32) : (drp X b).testBit k = (X.testBit k && !decide (b = k)) := by
  unfold drp; rw [ch_bit _ hk, clrb_bit hX (by omega)]
/-- Are all of the offsets' bits set? -/
def fl (X : Nat) : Bool := !fb X 32
theorem fl_iff (X : Nat) : fl X = true ↔ ∀ k, k < 32 → X.testBit k = true := by
  unfold fl
  constructor
  · intro h
    exact (f_no (by simpa using h)).2
  · intro h
    rw [(fi_not h).2]; rfl
/-- The word whose bits below n are told by f. -/
def fw (f : Nat → Bool) : Nat → Nat
  | 0 => 0
  | n + 1 => if f n then setb (fw f n) n else fw f n
theorem fw_bit (f : Nat → Bool) (n k : Nat) : (fw f n).testBit k = (decide (k < n) && f k) := by
  induction n with
  | zero => simp [fw]
  | succ n ih =>
    unfold fw
    by_cases e : n = k
    · subst e
      cases h : f n with
      | true => rw [if_pos rfl, setb_bit]; simp
      | false => rw [if_neg (by simp), ih]; simp
    · have e1 : decide (k < n + 1) = decide (k < n) := by
        rw [Bool.eq_iff_iff]; simp; omega
      cases h : f n with
      | true => rw [if_pos rfl, setb_bit, ih, e1]; simp [e]
      | false => rw [if_neg (by simp), ih, e1]
theorem fw_lt (f : Nat → Bool) {n : Nat} (hn : n ≤ 64) : fw f n < 18446744073709551616 := by
  have := Nat.lt_pow_two_of_testBit (n := 64) (fw f n) (fun k hk => by
    rw [fw_bit]; have : ¬ k < n := by omega
    simp [this])
  simpa using this
theorem fw_congr {f g : Nat → Bool} {n : Nat} (h : ∀ k, k < n → f k = g k) : fw f n = fw g n := by
  apply Nat.eq_of_testBit_eq
  intro k
  rw [fw_bit, fw_bit]
  by_cases hk : k < n
  · rw [h k hk]
  · simp [hk]
theorem fw_all {f : Nat → Bool} : fw f 64 = 18446744073709551615 ↔ ∀ k, k < 64 → f k = true := by
  constructor
  · intro h k hk
    have := fw_bit f 64 k
    rw [h, ones_bit] at this
    simpa [hk] using this.symm
  · intro h
    apply Nat.eq_of_testBit_eq
    intro k
    rw [fw_bit, ones_bit]
    by_cases hk : k < 64
    · simp [hk, h k hk]
    · simp [hk]
/-- Is the leaf's bit set at first? -/
def nf (M : Nat) (xs : List Int) (l b : Nat) : Bool := decide (M ≤ 32 * l + b) || hasB xs ((32 * l + b : Nat) : Int)
/-- The leaf's first word. -/
def nw (M : Nat) (xs : List Int) (l : Nat) : Nat := fw (nf M xs l) 32
theorem nw_lt (M : Nat) (xs : List Int) (l : Nat) : nw M xs l < 18446744073709551616 := fw_lt _ (by decide)
theorem nw_bit (M : Nat) (xs : List Int) (l k : Nat) : (nw M xs l).testBit k = (decide (k < 32) && nf M xs l k) := fw_bit _ _ _
theorem hasB_nil (x : Int) : hasB [] x = false := rfl
theorem hasB_snoc (xs : List Int) (y x : Int) : hasB (xs ++ [y]) x = (hasB xs x || decide (x = y)) := by
  unfold hasB
  rw [Bool.eq_iff_iff]
  simp
theorem take_gi {xs : List Int} {j : Nat} (h : j < xs.length) : xs.take (j + 1) = xs.take j ++ [gi xs j] := by
  rw [List.take_succ_eq_append_getElem h, gi_at h]
theorem nw_first (M l : Nat) (hl : 32 * l < M) : nw M [] l = msk 32 &&& (18446744073709551615 - msk (wd M l)) := by
  have hw : wd M l ≤ 32 := by unfold wd; omega
  apply Nat.eq_of_testBit_eq
  intro k
  rw [nw_bit, Nat.testBit_and, not_bit (msk_lt (by omega))]
  unfold msk
  rw [mask_bit, mask_bit]
  unfold nf
  rw [hasB_nil, Bool.or_false]
  by_cases hk : k < 32
  · have : k < 64 := by omega
    simp only [hk, this, decide_true, Bool.true_and]
    rw [Bool.eq_iff_iff]
    unfold wd
    simp
    omega
  · simp [hk]
theorem nw_hit {M : Nat} {xs : List Int} {l j o : Nat} (hj : j < xs.length) (ho : gi xs j = (o : Int)) (hl : o / 32 = l) : setb (nw M (xs.take j) l) (o % 32) = nw M (xs.take (j + 1)) l := by
  apply Nat.eq_of_testBit_eq
  intro k
  rw [setb_bit, nw_bit, nw_bit]
  unfold nf
  rw [take_gi hj, hasB_snoc, ho]
  by_cases hk : k < 32
  · have e : decide (((32 * l + k : Nat) : Int) = (o : Int)) = decide (o % 32 = k) := by
      rw [Bool.eq_iff_iff]; simp only [decide_eq_true_eq]; omega
    rw [e]
    simp [hk, Bool.or_assoc]
  · have : ¬ o % 32 = k := by omega
    simp [hk, this]
theorem nw_miss {M : Nat} {xs : List Int} {l j o : Nat} (hj : j < xs.length) (ho : gi xs j = (o : Int)) (hl : ¬ o / 32 = l) : nw M (xs.take j) l = nw M (xs.take (j + 1)) l := by
  apply Nat.eq_of_testBit_eq
  intro k
  rw [nw_bit, nw_bit]
  unfold nf
  rw [take_gi hj, hasB_snoc, ho]
  by_cases hk : k < 32
  · have e : decide (((32 * l + k : Nat) : Int) = (o : Int)) = false := by
      rw [decide_eq_false_iff_not]; omega
    rw [e, Bool.or_false]
  · simp [hk]
/-- Is there a leaf below j of that top of which f tells? -/
def rt (f : Nat → Bool) : Nat → Nat → Bool
  | 0, _ => false
  | j + 1, t => rt f j t || (decide (j / 64 = t) && f j)
/-- Of the words of leaves v: the word of the top t when j leaves have been laid, and the root's. -/
def tpw (v : Nat → Nat) (j t : Nat) : Nat := fw (fun b => !(decide (64 * t + b < j) && !fl (v (64 * t + b)))) 64
def rtw (v : Nat → Nat) (j : Nat) : Nat := fw (fun t => !rt (fun i => !fl (v i)) j t) 64
theorem tpw_lt (v : Nat → Nat) (j t : Nat) : tpw v j t < 18446744073709551616 := fw_lt _ (by decide)
theorem rtw_lt (v : Nat → Nat) (j : Nat) : rtw v j < 18446744073709551616 := fw_lt _ (by decide)
theorem tpw_none (v : Nat → Nat) (t : Nat) : tpw v 0 t = msk 64 := by
  unfold tpw; rw [fw_all.2 (by intro k _; simp)]; rfl
theorem rtw_none (v : Nat → Nat) : rtw v 0 = msk 64 := by
  unfold rtw; rw [fw_all.2 (by intro k _; simp [rt])]; rfl
theorem tpw_full {v : Nat → Nat} {j t : Nat} (h : fl (v j) = true) : tpw v (j + 1) t = tpw v j t := by
  apply fw_congr
  intro b hb
  by_cases e : 64 * t + b = j
  · rw [e, h]; simp
  · have : decide (64 * t + b < j + 1) = decide (64 * t + b < j) := by rw [Bool.eq_iff_iff]; simp; omega
    rw [this]
theorem rtw_full {v : Nat → Nat} {j : Nat} (h : fl (v j) = true) : rtw v (j + 1) = rtw v j := by
  apply fw_congr
  intro t ht
  simp [rt, h]
theorem tpw_free {v : Nat → Nat} {j : Nat} (h : fl (v j) = false) : tpw v (j + 1) (j / 64) = clrb (tpw v j (j / 64)) (j % 64) := by
  apply Nat.eq_of_testBit_eq
  intro b
  rw [clrb_bit (tpw_lt v j _) (by omega)]
  unfold tpw
  rw [fw_bit, fw_bit]
  by_cases e : j % 64 = b
  · have e2 : 64 * (j / 64) + b = j := by omega
    rw [e2, h]; simp [e]
  · by_cases hb : b < 64
    · have : decide (64 * (j / 64) + b < j + 1) = decide (64 * (j / 64) + b < j) := by rw [Bool.eq_iff_iff]; simp; omega
      rw [this]; simp [e]
    · simp [hb]
theorem tpw_other {v : Nat → Nat} {j t : Nat} (h : ¬ t = j / 64) : tpw v (j + 1) t = tpw v j t := by
  apply fw_congr
  intro b hb
  have : decide (64 * t + b < j + 1) = decide (64 * t + b < j) := by rw [Bool.eq_iff_iff]; simp; omega
  rw [this]
theorem rtw_free {v : Nat → Nat} {j : Nat} (hj : j < 4096) (h : fl (v j) = false) : rtw v (j + 1) = clrb (rtw v j) (j / 64) := by
  apply Nat.eq_of_testBit_eq
  intro b
  rw [clrb_bit (rtw_lt v j) (by omega)]
  unfold rtw
  rw [fw_bit, fw_bit]
  by_cases e : j / 64 = b
  · simp [rt, h, e]
  · simp [rt, e]
/-- The cells of leaves with the words v (L leaves, T tops), when j leaves have been laid. -/
def cel (v : Nat → Nat) (L T j i : Nat) : Nat := if i < L then (if i < j then v i else 0) else if i < L + T then tpw v j (i - L) else rtw v j
def cl (v : Nat → Nat) (L T j : Nat) : List Nat := (List.range (L + T + 1)).map (cel v L T j)
theorem cl_len (v : Nat → Nat) (L T j : Nat) : (cl v L T j).length = L + T + 1 := by simp [cl]
theorem gt_map {f : Nat → Nat} {n i : Nat} (h : i < n) : gt ((List.range n).map f) i = f i := by
  unfold gt; simp [List.getD_eq_getElem?_getD, h]
theorem gt_cl {v : Nat → Nat} {L T j i : Nat} (h : i < L + T + 1) : gt (cl v L T j) i = cel v L T j i := gt_map h
theorem cel_lt {v : Nat → Nat} (hv : ∀ i, v i < 18446744073709551616) (L T j i : Nat) : cel v L T j i < 18446744073709551616 := by
  unfold cel
  split
  · split
    · exact hv i
    · decide
  · split
    · exact tpw_lt _ _ _
    · exact rtw_lt _ _
theorem cl_fit {v : Nat → Nat} (hv : ∀ i, v i < 18446744073709551616) (L T j : Nat) : ∀ x ∈ cl v L T j, x < U64 := by
  intro x hx
  obtain ⟨i, _, rfl⟩ := List.mem_map.1 hx
  exact cel_lt hv L T j i
theorem cl_full {v : Nat → Nat} {L T j : Nat} (hj : j < L) (h : fl (v j) = true) : (cl v L T j).set j (v j) = cl v L T (j + 1) := by
  apply ext_gt (by simp [cl_len])
  intro i hi
  rw [List.length_set, cl_len] at hi
  rw [gt_set (by rw [cl_len]; omega), gt_cl hi, gt_cl hi]
  unfold cel
  rw [tpw_full h, rtw_full h]
  by_cases e : j = i
  · subst e; simp [hj]
  · rw [if_neg e]
    by_cases h1 : i < L
    · have : (i < j) ↔ (i < j + 1) := by omega
      simp only [h1, this, if_true]
    · simp [h1]
theorem cl_free {v : Nat → Nat} {L T j : Nat} (hj : j < L) (hT : j / 64 < T) (hL : L ≤ 4096) (h : fl (v j) = false) :
    (((cl v L T j).set j (v j)).set (L + j / 64) (clrb (tpw v j (j / 64)) (j % 64))).set (L + T) (clrb (rtw v j) (j / 64)) = cl v L T (j + 1) := by
  apply ext_gt (by simp [cl_len])
  intro i hi
  rw [List.length_set, List.length_set, List.length_set, cl_len] at hi
  rw [gt_set (by simp [cl_len]), gt_set (by simp [cl_len]; omega), gt_set (by rw [cl_len]; omega), gt_cl hi, gt_cl hi, ← tpw_free h, ← rtw_free (by omega) h]
  unfold cel
  by_cases e1 : L + T = i
  · rw [if_pos e1, if_neg (by omega), if_neg (by omega)]
  · rw [if_neg e1]
    by_cases e2 : L + j / 64 = i
    · rw [if_pos e2, if_neg (by omega), if_pos (by omega), show i - L = j / 64 by omega]
    · rw [if_neg e2]
      by_cases e3 : j = i
      · subst e3; simp [hj]
      · rw [if_neg e3]
        by_cases h1 : i < L
        · have : (i < j) ↔ (i < j + 1) := by omega
          simp only [h1, this, if_true]
        · rw [if_neg h1, if_neg h1, if_pos (by omega), if_pos (by omega), tpw_other (by omega)]
theorem gt_cl_top {v : Nat → Nat} {L T j t : Nat} (ht : t < T) : gt (cl v L T j) (L + t) = tpw v j t := by
  rw [gt_cl (by omega)]; unfold cel; rw [if_neg (by omega), if_pos (by omega), show L + t - L = t by omega]
theorem gt_cl_root (v : Nat → Nat) (L T j : Nat) : gt (cl v L T j) (L + T) = rtw v j := by
  rw [gt_cl (by omega)]; unfold cel; rw [if_neg (by omega), if_neg (by omega)]
/-- What stands ahead of the leaves' round: the first k cells behind the leaves are all ones. -/
def prc (L k n : Nat) : List Nat := (List.range n).map (fun i => if i < L then 0 else if i < k then msk 64 else 0)
theorem prc_len (L k n : Nat) : (prc L k n).length = n := by simp [prc]
theorem prc_start (L n : Nat) : List.replicate n 0 = prc L L n := by
  apply ext_gt (by simp [prc_len])
  intro i hi
  simp at hi
  unfold prc
  rw [gt_map hi]
  have : gt (List.replicate n 0) i = 0 := by unfold gt; simp [List.getD_eq_getElem?_getD, hi]
  rw [this]
  split
  · rfl
  · rfl
theorem prc_step {L k n : Nat} (h : L ≤ k) (hk : k < n) : (prc L k n).set k (msk 64) = prc L (k + 1) n := by
  apply ext_gt (by simp [prc_len])
  intro i hi
  rw [List.length_set, prc_len] at hi
  rw [gt_set (by rw [prc_len]; omega)]
  unfold prc
  rw [gt_map hi, gt_map hi]
  by_cases e : k = i
  · subst e; rw [if_pos rfl, if_neg (by omega), if_pos (by omega)]
  · rw [if_neg e]
    have : (i < k) ↔ (i < k + 1) := by omega
    simp only [this]
theorem prc_end (v : Nat → Nat) (L T : Nat) : prc L (L + T + 1) (L + T + 1) = cl v L T 0 := by
  unfold prc cl
  apply List.map_congr_left
  intro i hi
  have hi' : i < L + T + 1 := by simpa using hi
  unfold cel
  by_cases h1 : i < L
  · simp [h1]
  · rw [if_neg h1, if_neg h1, if_pos hi', tpw_none, rtw_none]
    split <;> rfl
/-- The document's tops and root. -/
def dtf (v : Nat → Nat) (L t b : Nat) : Bool := decide (L ≤ 64 * t + b) || fl (v (64 * t + b))
def dtw (v : Nat → Nat) (L t : Nat) : Nat := fw (dtf v L t) 64
def drf (v : Nat → Nat) (L T t : Nat) : Bool := decide (T ≤ t) || decide (dtw v L t = 18446744073709551615)
def drw (v : Nat → Nat) (L T : Nat) : Nat := fw (drf v L T) 64
/-- The document's cells: the first k of them. -/
def dce (v : Nat → Nat) (L T i : Nat) : Nat := if i < L then v i else if i < L + T then dtw v L (i - L) else drw v L T
def dc (v : Nat → Nat) (L T k : Nat) : List Nat := (List.range k).map (dce v L T)
end Go.Proofs.YtfhefofkhmkcnaaGreatDoor

/-
 What each function of package word answers,and the document's own words,for words below 2^64 and bits below 32 (all but the first words'): the world is as it was.
-/
namespace Go.Proofs.YtfhefofkhmkcnaaGreatDoor
set_option maxRecDepth 100000
set_option maxRecDepth 100000
open Go.RowKit
set_option maxHeartbeats 8000000
theorem with_any (X i:Nat) (hX:X<18446744073709551616) (hi:i<64) (w:World) :
  Calls Tryz.prog 63 #[.int .u64 X,.int .i64 i] w fun e w'=>e=.returned (.int .u64 (setb X i))∧w=w':=by
 go_enter Tryz.func63,Tryz.ntmps63
 go_wp2_with (go_at_call 60;refine (set_any _ _ hX hi _).mono ?_;rintro e w' ⟨rfl,rfl⟩)
 go_ret
 exact ⟨rfl,rfl⟩
theorem without_any (X i:Nat) (hX:X<18446744073709551616) (hi:i<64) (w:World) :
  Calls Tryz.prog 194 #[.int .u64 X,.int .i64 i] w fun e w'=>e=.returned (.int .u64 (clrb X i))∧w=w':=by
 go_enter Tryz.func194,Tryz.ntmps194
 go_wp2_with (go_at_call 66;refine (clear_any _ _ hX hi _).mono ?_;rintro e w' ⟨rfl,rfl⟩)
 go_ret
 exact ⟨rfl,rfl⟩
theorem changed_any (X:Nat) (w:World) :
  Calls Tryz.prog 105 #[.int .u64 X] w fun e w'=>e=.returned (.int .u64 (ch X))∧w=w':=by
 go_enter Tryz.func105,Tryz.ntmps105
 go_wp2
 go_ret
 exact ⟨ret_int (by rw [IntKind.wrap_u64];unfold ch;omega),rfl⟩
theorem become_with (X i:Nat) (hX:X<18446744073709551616) (hi:i<64) (w:World) :
  Calls Tryz.prog 164 #[.int .u64 X,.int .i64 i,.func (.func 63) #[] #[]] w fun e w'=>e=.returned (.int .u64 (clm X i))∧w=w':=by
 go_enter Tryz.func164,Tryz.ntmps164
 go_wp2_with (first
  | ((with_reducible refine (with_any _ _ hX hi _).mono ?_);rintro e w' ⟨rfl,rfl⟩)
  | ((with_reducible refine (changed_any _ _).mono ?_);rintro e w' ⟨rfl,rfl⟩))
 go_ret
 exact ⟨rfl,rfl⟩
theorem become_without (X i:Nat) (hX:X<18446744073709551616) (hi:i<64) (w:World) :
  Calls Tryz.prog 164 #[.int .u64 X,.int .i64 i,.func (.func 194) #[] #[]] w fun e w'=>e=.returned (.int .u64 (drp X i))∧w=w':=by
 go_enter Tryz.func164,Tryz.ntmps164
 go_wp2_with (first
  | ((with_reducible refine (without_any _ _ hX hi _).mono ?_);rintro e w' ⟨rfl,rfl⟩)
  | ((with_reducible refine (changed_any _ _).mono ?_);rintro e w' ⟨rfl,rfl⟩))
 go_ret
 exact ⟨rfl,rfl⟩
theorem claim_any (X i:Nat) (hX:X<18446744073709551616) (hi:i<64) (w:World) :
  Calls Tryz.prog 157 #[.int .u64 X,.int .i64 i] w fun e w'=>e=.returned (.int .u64 (clm X i))∧w=w':=by
 go_enter Tryz.func157,Tryz.ntmps157
 go_wp2_with (go_at_call 164;refine (become_with _ _ hX hi _).mono ?_;rintro e w' ⟨rfl,rfl⟩)
 go_ret
 exact ⟨rfl,rfl⟩
theorem drop_any (X i:Nat) (hX:X<18446744073709551616) (hi:i<64) (w:World) :
  Calls Tryz.prog 193 #[.int .u64 X,.int .i64 i] w fun e w'=>e=.returned (.int .u64 (drp X i))∧w=w':=by
 go_enter Tryz.func193,Tryz.ntmps193
 go_wp2_with (go_at_call 164;refine (become_without _ _ hX hi _).mono ?_;rintro e w' ⟨rfl,rfl⟩)
 go_ret
 exact ⟨rfl,rfl⟩
theorem used_any (X i:Nat) (hX:X<18446744073709551616) (hi:i<64) (w:World) :
  Calls Tryz.prog 168 #[.int .u64 X,.int .i64 i] w fun e w'=>e=.returned (.bool (X.testBit i))∧w=w':=by
 go_enter Tryz.func168,Tryz.ntmps168
 go_wp2_with (go_at_call 84;refine (has_any _ _ hX hi _).mono ?_;rintro e w' ⟨rfl,rfl⟩)
 go_ret
 exact ⟨rfl,rfl⟩
theorem wfirst_any (X:Nat) (hX:X<18446744073709551616) (w:World) :
  Calls Tryz.prog 64 #[.int .u64 X] w fun e w'=>e=.returned (.tuple #[.int .i64 (fi X 32),.bool (fb X 32)])∧w=w':=by
 have T:=fun w=>Lib.hid (first_any X 32 hX (by decide) w)
 generalize fi X 32=f at T ⊢
 generalize fb X 32=b at T ⊢
 go_enter Tryz.func64,Tryz.ntmps64
 go_wp2_with (go_at_call 78;refine ((T _).out).mono ?_;rintro e w' ⟨rfl,rfl⟩)
 go_ret2
 exact ⟨rfl,rfl⟩
theorem full_any (X:Nat) (hX:X<18446744073709551616) (w:World) :
  Calls Tryz.prog 30 #[.int .u64 X] w fun e w'=>e=.returned (.bool (fl X))∧w=w':=by
 have T:=fun w=>Lib.hid (wfirst_any X hX w)
 have e1:fl X=!fb X 32:=rfl
 rw [e1]
 clear e1
 generalize fi X 32=f at T ⊢
 generalize fb X 32=b at T ⊢
 go_enter Tryz.func30,Tryz.ntmps30
 go_wp2_with (go_at_call 64;refine ((T _).out).mono ?_;rintro e w' ⟨rfl,rfl⟩)
 go_ret
 exact ⟨rfl,rfl⟩
theorem rclaim_any (X i:Nat) (hX:X<18446744073709551616) (hi:i<64) (w:World) :
  Calls Tryz.prog 36 #[.int .u64 X,.int .i64 i] w fun e w'=>e=.returned (.int .u64 (clm X i))∧w=w':=by
 go_enter Tryz.func36,Tryz.ntmps36
 go_wp2_with (go_at_call 70;refine (rset_any _ _ hX hi _).mono ?_;rintro e w' ⟨rfl,rfl⟩)
 go_ret
 exact ⟨ret_int (by rw [IntKind.wrap_u64];unfold clm ch;omega),rfl⟩
theorem rdrop_any (X i:Nat) (hX:X<18446744073709551616) (hi:i<64) (w:World) :
  Calls Tryz.prog 35 #[.int .u64 X,.int .i64 i] w fun e w'=>e=.returned (.int .u64 (drp X i))∧w=w':=by
 go_enter Tryz.func35,Tryz.ntmps35
 go_wp2_with (go_at_call 69;refine (rclear_any _ _ hX hi _).mono ?_;rintro e w' ⟨rfl,rfl⟩)
 go_ret
 exact ⟨ret_int (by rw [IntKind.wrap_u64];unfold drp ch;omega),rfl⟩
end Go.Proofs.YtfhefofkhmkcnaaGreatDoor
