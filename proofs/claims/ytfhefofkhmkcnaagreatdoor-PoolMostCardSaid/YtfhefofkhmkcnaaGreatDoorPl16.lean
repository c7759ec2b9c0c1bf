/-
  What the functions that these laws call answer, and what follows of it; conditions: those that each theorem names. In this file: SpecSame, SpecLib, SpecRow, SpecFacts, BatchMath, BatchStep, PoolMath, PoolRun, PoolSay, PoolLaw.
-/
import Derived.Test.YtfhefofkhmkcnaaGreatDoorPl15
/-
 Answers held against one another,by the program and by the document: all fields;what the document's Few and Fits tell;nothing that was there is otherwise. Conditions: lists of at most 65536.
-/
namespace Go.Proofs.YtfhefofkhmkcnaaGreatDoor
set_option maxRecDepth 100000
set_option maxRecDepth 100000
open Go.RowKit
set_option maxHeartbeats 8000000
set_option linter.unusedVariables false
theorem an_sz {c0 c1 c2 c3 c4:Value}:(Tryz.prog.info? 40).map (·.size)=some (#[c0,c1,c2,c3,c4]:Array Value).size:=by kernel_rfl
theorem an_iff (x y:An):x=y↔x.1=y.1∧x.2.1=y.2.1∧x.2.2.1=y.2.2.1∧x.2.2.2.1=y.2.2.2.1∧x.2.2.2.2=y.2.2.2.2:=by
 obtain ⟨a,b,c,d,e⟩:=x
 obtain ⟨a',b',c',d',e'⟩:=y
 simp only [Prod.mk.injEq]
section
variable {w:World} {lo lo':Nat} {A A':Option Addr} {n n' c c':Nat} {xs xs':List Int}
theorem ext_deci {k:Nat} (h:IS .i64 lo w A n c xs) (h':IS .i64 lo' w A' n c' xs') (hk:n≤k) (e:∀ j,j<k→gi xs j=gi xs' j):xs=xs' :=
 ext_gi (h.len.trans h'.len.symm) (fun j hj=>e j (by have:=h.len;omega))
theorem rerrs_any (h:IS .i64 lo w A n c xs) (h':IS .i64 lo' w A' n' c' xs') (hn:n≤65536) (hn':n'≤65536) :
  Calls Tryz.prog 51 #[.slice A n c,.slice A' n' c'] w (RetBo (decide (xs=xs')) w):=by
 have hl:=h.len
 have hl':=h'.len
 by_cases hnn:n=n'
 ·subst hnn
  have e0:((n:Int) != (n:Int))=false:=by simp
  have hl2:=Lib.hid hl'
  clear hl'
  go_enter Tryz.func51,Tryz.ntmps51
  go_wp2
  go_loopw [5] (fun i wr=>∃ k:Nat,k≤n∧i=.int .i64 k∧Below w.heap.size w wr∧Hid (∀ j,j<k→gi xs j=gi xs' j)) (fun i _=>n - (intOf i).toNat)
  case atStart=>exact ⟨0,Nat.zero_le _,rfl,Below.refl _ _,Lib.hid (fun j hj=>absurd hj (by omega))⟩
  case round =>
   obtain ⟨k,hk,rfl,Kr,he⟩:=hrel
   by_cases hlt:k<n
   ·obtain ⟨b,o,rfl,_,hc⟩:=(h.below Kr).get hlt
    obtain ⟨b',o',rfl,_,hc'⟩:=(h'.below Kr).get hlt
    by_cases hx:gi xs k=gi xs' k
    ·have e1:(gi xs k != gi xs' k)=false:=by simp [hx]
     have hx:=Lib.hid hx
     go_wp2
     go_quiet (fail)
     go_wp2
     go_roundw
     case rel =>
      refine ⟨k+1,by omega,by go_num,below_drewN Kr _,Lib.hid (fun j hj=>?_)⟩
      rcases Nat.lt_or_ge j k with g | g
      ·exact he.out j g
      ·obtain rfl:j=k:=by omega
       exact hx.out
     case measure=>simp [intOf];omega
    ·have e1:(gi xs k != gi xs' k)=true:=by simp [hx]
     have hx:=Lib.hid hx
     go_wp2
     go_quiet (fail)
     go_wp2
     go_ret
     exact ⟨ret_bool (by simp;intro e;exact hx.out (by rw [e])),below_drewN Kr _⟩
   ·go_wp2
    go_ret
    exact ⟨ret_bool (by simp;exact ext_deci h h' (by omega) he.out),Kr⟩
 ·have e0:((n:Int) != (n':Int))=true:=by simp;omega
  have hx:¬ xs=xs':=by intro e;rw [e] at hl;omega
  clear hl hl'
  have hx:=Lib.hid hx
  go_enter Tryz.func51,Tryz.ntmps51
  go_wp2
  go_ret
  exact ⟨ret_bool (by simp [hx.out]),Below.refl _ _⟩
end
section
variable {w:World} {lo lo2 lo3 lo4 p1 p2 q1 q2 p1' p2' q1' q2':Nat} {E D E' D':Int} {U U':Bool} {P Q P' Q':Option Addr} {gs es gs' es':List Int}
theorem answers5 (hA:IS .u32 lo w P p1 p2 gs) (hE:IS .i64 lo2 w Q q1 q2 es) (hA':IS .u32 lo3 w P' p1' p2' gs') (hE':IS .i64 lo4 w Q' q1' q2' es') (b1:p1≤65536) (b2:q1≤65536) (b3:p1'≤65536) (b4:q1'≤65536) :
  Calls Tryz.prog 21 #[.agg #[.int .i64 E,.int .u32 D,.bool U,.slice P p1 p2,.slice Q q1 q2],.agg #[.int .i64 E',.int .u32 D',.bool U',.slice P' p1' p2',.slice Q' q1' q2']] w (RetBo (decide (E=E'∧D=D'∧U=U'∧gs=gs'∧es=es')) w):=by
 have K:=Below.refl w.heap.size w
 go_enter Tryz.func21,Tryz.ntmps21
 go_upto_region 1 with (fail)
 replace hA:=hA.below (below_alloc _ (.cells #[.int .i64 E,.int .u32 D,.bool U,.slice P p1 p2,.slice Q q1 q2] 40))
 replace hE:=hE.below (below_alloc _ (.cells #[.int .i64 E,.int .u32 D,.bool U,.slice P p1 p2,.slice Q q1 q2] 40))
 replace hA':=hA'.below (below_alloc _ (.cells #[.int .i64 E,.int .u32 D,.bool U,.slice P p1 p2,.slice Q q1 q2] 40))
 replace hE':=hE'.below (below_alloc _ (.cells #[.int .i64 E,.int .u32 D,.bool U,.slice P p1 p2,.slice Q q1 q2] 40))
 replace K:=Below.then_ K (below_alloc _ (.cells #[.int .i64 E,.int .u32 D,.bool U,.slice P p1 p2,.slice Q q1 q2] 40))
 have G:=Bk.new (w) #[.int .i64 E,.int .u32 D,.bool U,.slice P p1 p2,.slice Q q1 q2] 40
 replace G:=G.alloc (.cells #[.int .i64 E',.int .u32 D',.bool U',.slice P' p1' p2',.slice Q' q1' q2'] 40)
 replace hA:=hA.below (below_alloc _ (.cells #[.int .i64 E',.int .u32 D',.bool U',.slice P' p1' p2',.slice Q' q1' q2'] 40))
 replace hE:=hE.below (below_alloc _ (.cells #[.int .i64 E',.int .u32 D',.bool U',.slice P' p1' p2',.slice Q' q1' q2'] 40))
 replace hA':=hA'.below (below_alloc _ (.cells #[.int .i64 E',.int .u32 D',.bool U',.slice P' p1' p2',.slice Q' q1' q2'] 40))
 replace hE':=hE'.below (below_alloc _ (.cells #[.int .i64 E',.int .u32 D',.bool U',.slice P' p1' p2',.slice Q' q1' q2'] 40))
 replace K:=Below.then_ K (below_alloc _ (.cells #[.int .i64 E',.int .u32 D',.bool U',.slice P' p1' p2',.slice Q' q1' q2'] 40))
 have J:=Bk.new ((w).alloc (.cells #[.int .i64 E,.int .u32 D,.bool U,.slice P p1 p2,.slice Q q1 q2] 40)) #[.int .i64 E',.int .u32 D',.bool U',.slice P' p1' p2',.slice Q' q1' q2'] 40
 try simp only [World.size_alloc] at G J
 generalize ((w).alloc (.cells #[.int .i64 E,.int .u32 D,.bool U,.slice P p1 p2,.slice Q q1 q2] 40)).alloc (.cells #[.int .i64 E',.int .u32 D',.bool U',.slice P' p1' p2',.slice Q' q1' q2'] 40)=w1 at G J hA hE hA' hE' K ⊢
 generalize w.heap.size+1=gJ at G J ⊢
 generalize w.heap.size=gG at G J ⊢
 by_cases e1:E=E'
 ·have g1:(E == E')=true:=by simp [e1]
  replace e1:=Lib.hid e1
  by_cases e2:D=D'
  ·have g2:(D == D')=true:=by simp [e2]
   replace e2:=Lib.hid e2
   by_cases e3:U=U'
   ·have g3:(U == U')=true:=by simp [e3]
    replace e3:=Lib.hid e3
    have T:=raddrs_any hA hA' b1 b3
    by_cases e4:gs=gs'
    ·rw [decide_eq_true e4] at T
     replace T:=Lib.hid T
     replace e4:=Lib.hid e4
     have G_0:=G.at_ (v:=.int .i64 E) 0 rfl
     have G_1:=G.at_ (v:=.int .u32 D) 1 rfl
     have G_2:=G.at_ (v:=.bool U) 2 rfl
     have G_3:=G.at_ (v:=.slice P p1 p2) 3 rfl
     have G_4:=G.at_ (v:=.slice Q q1 q2) 4 rfl
     have G_z:=G.lt
     have J_0:=J.at_ (v:=.int .i64 E') 0 rfl
     have J_1:=J.at_ (v:=.int .u32 D') 1 rfl
     have J_2:=J.at_ (v:=.bool U') 2 rfl
     have J_3:=J.at_ (v:=.slice P' p1' p2') 3 rfl
     have J_4:=J.at_ (v:=.slice Q' q1' q2') 4 rfl
     have J_z:=J.lt
     go_wp2_with fail
     refine T.out.mono ?_
     rintro e ww ⟨rfl,K'⟩
     clear G_0 G_1 G_2 G_3 G_4 G_z
     clear J_0 J_1 J_2 J_3 J_4 J_z
     clear T
     replace G:=G.below K'
     replace J:=J.below K'
     replace hA:=hA.below K'
     replace hE:=hE.below K'
     replace hA':=hA'.below K'
     replace hE':=hE'.below K'
     replace K:=Below.then_ K K'
     clear K'
     have T:=Lib.hid (rerrs_any hE hE' b2 b4)
     have G_0:=G.at_ (v:=.int .i64 E) 0 rfl
     have G_1:=G.at_ (v:=.int .u32 D) 1 rfl
     have G_2:=G.at_ (v:=.bool U) 2 rfl
     have G_3:=G.at_ (v:=.slice P p1 p2) 3 rfl
     have G_4:=G.at_ (v:=.slice Q q1 q2) 4 rfl
     have G_z:=G.lt
     have J_0:=J.at_ (v:=.int .i64 E') 0 rfl
     have J_1:=J.at_ (v:=.int .u32 D') 1 rfl
     have J_2:=J.at_ (v:=.bool U') 2 rfl
     have J_3:=J.at_ (v:=.slice P' p1' p2') 3 rfl
     have J_4:=J.at_ (v:=.slice Q' q1' q2') 4 rfl
     have J_z:=J.lt
     go_wp2_with fail
     refine T.out.mono ?_
     rintro e w5 ⟨rfl,K'⟩
     go_wp2
     go_ret
     exact ⟨ret_bool (by simp [e1.out,e2.out,e3.out,e4.out]),Below.then_ K K'⟩
    ·rw [decide_eq_false e4] at T
     replace T:=Lib.hid T
     replace e4:=Lib.hid e4
     have G_0:=G.at_ (v:=.int .i64 E) 0 rfl
     have G_1:=G.at_ (v:=.int .u32 D) 1 rfl
     have G_2:=G.at_ (v:=.bool U) 2 rfl
     have G_3:=G.at_ (v:=.slice P p1 p2) 3 rfl
     have G_4:=G.at_ (v:=.slice Q q1 q2) 4 rfl
     have G_z:=G.lt
     have J_0:=J.at_ (v:=.int .i64 E') 0 rfl
     have J_1:=J.at_ (v:=.int .u32 D') 1 rfl
     have J_2:=J.at_ (v:=.bool U') 2 rfl
     have J_3:=J.at_ (v:=.slice P' p1' p2') 3 rfl
     have J_4:=J.at_ (v:=.slice Q' q1' q2') 4 rfl
     have J_z:=J.lt
     go_wp2_with fail
     refine T.out.mono ?_
     rintro e w5 ⟨rfl,K'⟩
     go_wp2
     go_ret
     exact ⟨ret_bool (by simp [e4.out]),Below.then_ K K'⟩
   ·have g3:(U == U')=false:=by simp [e3]
    replace e3:=Lib.hid e3
    have G_0:=G.at_ (v:=.int .i64 E) 0 rfl
    have G_1:=G.at_ (v:=.int .u32 D) 1 rfl
    have G_2:=G.at_ (v:=.bool U) 2 rfl
    have G_3:=G.at_ (v:=.slice P p1 p2) 3 rfl
    have G_4:=G.at_ (v:=.slice Q q1 q2) 4 rfl
    have G_z:=G.lt
    have J_0:=J.at_ (v:=.int .i64 E') 0 rfl
    have J_1:=J.at_ (v:=.int .u32 D') 1 rfl
    have J_2:=J.at_ (v:=.bool U') 2 rfl
    have J_3:=J.at_ (v:=.slice P' p1' p2') 3 rfl
    have J_4:=J.at_ (v:=.slice Q' q1' q2') 4 rfl
    have J_z:=J.lt
    go_wp2
    go_ret
    exact ⟨ret_bool (by simp [e3.out]),K⟩
  ·have g2:(D == D')=false:=by simp [e2]
   replace e2:=Lib.hid e2
   have G_0:=G.at_ (v:=.int .i64 E) 0 rfl
   have G_1:=G.at_ (v:=.int .u32 D) 1 rfl
   have G_2:=G.at_ (v:=.bool U) 2 rfl
   have G_3:=G.at_ (v:=.slice P p1 p2) 3 rfl
   have G_4:=G.at_ (v:=.slice Q q1 q2) 4 rfl
   have G_z:=G.lt
   have J_0:=J.at_ (v:=.int .i64 E') 0 rfl
   have J_1:=J.at_ (v:=.int .u32 D') 1 rfl
   have J_2:=J.at_ (v:=.bool U') 2 rfl
   have J_3:=J.at_ (v:=.slice P' p1' p2') 3 rfl
   have J_4:=J.at_ (v:=.slice Q' q1' q2') 4 rfl
   have J_z:=J.lt
   go_wp2
   go_ret
   exact ⟨ret_bool (by simp [e2.out]),K⟩
 ·have g1:(E == E')=false:=by simp [e1]
  replace e1:=Lib.hid e1
  have G_0:=G.at_ (v:=.int .i64 E) 0 rfl
  have G_1:=G.at_ (v:=.int .u32 D) 1 rfl
  have G_2:=G.at_ (v:=.bool U) 2 rfl
  have G_3:=G.at_ (v:=.slice P p1 p2) 3 rfl
  have G_4:=G.at_ (v:=.slice Q q1 q2) 4 rfl
  have G_z:=G.lt
  have J_0:=J.at_ (v:=.int .i64 E') 0 rfl
  have J_1:=J.at_ (v:=.int .u32 D') 1 rfl
  have J_2:=J.at_ (v:=.bool U') 2 rfl
  have J_3:=J.at_ (v:=.slice P' p1' p2') 3 rfl
  have J_4:=J.at_ (v:=.slice Q' q1' q2') 4 rfl
  have J_z:=J.lt
  go_wp2
  go_ret
  exact ⟨ret_bool (by simp [e1.out]),K⟩
end
section
variable {w:World} {lo lo2 lo3 lo4 p1 p2 q1 q2 p1' p2' q1' q2':Nat} {x y:An} {P Q P' Q':Option Addr}
theorem answers_any (hA:IS .u32 lo w P p1 p2 x.2.2.2.1) (hE:IS .i64 lo2 w Q q1 q2 x.2.2.2.2) (hA':IS .u32 lo3 w P' p1' p2' y.2.2.2.1) (hE':IS .i64 lo4 w Q' q1' q2' y.2.2.2.2) (b1:p1≤65536) (b2:q1≤65536) (b3:p1'≤65536) (b4:q1'≤65536) :
  Calls Tryz.prog 21 #[.agg #[.int .i64 x.1,.int .u32 x.2.1,.bool x.2.2.1,.slice P p1 p2,.slice Q q1 q2],.agg #[.int .i64 y.1,.int .u32 y.2.1,.bool y.2.2.1,.slice P' p1' p2',.slice Q' q1' q2']] w (RetBo (decide (x=y)) w):=by
 have T:=answers5 (E:=x.1) (D:=x.2.1) (U:=x.2.2.1) (E':=y.1) (D':=y.2.1) (U':=y.2.2.1) hA hE hA' hE' b1 b2 b3 b4
 rwa [show decide (x.1=y.1∧x.2.1=y.2.1∧x.2.2.1=y.2.2.1∧x.2.2.2.1=y.2.2.2.1∧x.2.2.2.2=y.2.2.2.2)=decide (x=y) from by rw [decide_eq_decide];exact (an_iff x y).symm] at T
theorem answers_is {b:Bool} (hA:IS .u32 lo w P p1 p2 x.2.2.2.1) (hE:IS .i64 lo2 w Q q1 q2 x.2.2.2.2) (hA':IS .u32 lo3 w P' p1' p2' y.2.2.2.1) (hE':IS .i64 lo4 w Q' q1' q2' y.2.2.2.2) (b1:p1≤65536) (b2:q1≤65536) (b3:p1'≤65536) (b4:q1'≤65536) (hb:decide (x=y)=b) :
  Calls Tryz.prog 21 #[.agg #[.int .i64 x.1,.int .u32 x.2.1,.bool x.2.2.1,.slice P p1 p2,.slice Q q1 q2],.agg #[.int .i64 y.1,.int .u32 y.2.1,.bool y.2.2.1,.slice P' p1' p2',.slice Q' q1' q2']] w (RetBo b w):=by
 subst hb;exact answers_any hA hE hA' hE' b1 b2 b3 b4
theorem rlonly_any (hA:IS .u32 lo w P p1 p2 x.2.2.2.1) (hE:IS .i64 lo2 w Q q1 q2 x.2.2.2.2) (b1:p1≤65536) (b2:q1≤65536) (v:Int) :
  Calls Tryz.prog 40 #[.agg #[.int .i64 x.1,.int .u32 x.2.1,.bool x.2.2.1,.slice P p1 p2,.slice Q q1 q2],.int .i64 v] w (RetBo (decide (x=an0 v)) w):=by
 have K:=Below.refl w.heap.size w
 go_enter Tryz.func40,Tryz.ntmps40
 go_upto_region 1 with (fail)
 replace hA:=hA.below (below_alloc _ (.cells #[.int .i64 x.1,.int .u32 x.2.1,.bool x.2.2.1,.slice P p1 p2,.slice Q q1 q2] 40))
 replace hE:=hE.below (below_alloc _ (.cells #[.int .i64 x.1,.int .u32 x.2.1,.bool x.2.2.1,.slice P p1 p2,.slice Q q1 q2] 40))
 replace K:=Below.then_ K (below_alloc _ (.cells #[.int .i64 x.1,.int .u32 x.2.1,.bool x.2.2.1,.slice P p1 p2,.slice Q q1 q2] 40))
 have G:=Bk.new (w) #[.int .i64 x.1,.int .u32 x.2.1,.bool x.2.2.1,.slice P p1 p2,.slice Q q1 q2] 40
 try simp only [World.size_alloc] at G
 generalize (w).alloc (.cells #[.int .i64 x.1,.int .u32 x.2.1,.bool x.2.2.1,.slice P p1 p2,.slice Q q1 q2] 40)=w1 at G hA hE K ⊢
 generalize w.heap.size=gG at G ⊢
 have T:=Lib.hid (answers_any (x:=x) (y:=an0 v) hA hE (IS.none_ .u32 0 _) (IS.none_ .i64 0 _) b1 b2 (by omega) (by omega))
 have G_0:=G.at_ (v:=.int .i64 x.1) 0 rfl
 have G_1:=G.at_ (v:=.int .u32 x.2.1) 1 rfl
 have G_2:=G.at_ (v:=.bool x.2.2.1) 2 rfl
 have G_3:=G.at_ (v:=.slice P p1 p2) 3 rfl
 have G_4:=G.at_ (v:=.slice Q q1 q2) 4 rfl
 have G_z:=G.lt
 go_wp2_with fail
 refine T.out.mono ?_
 rintro e w5 ⟨rfl,K'⟩
 go_wp2
 go_ret
 exact ⟨rfl,Below.then_ K K'⟩
end
section
variable {w:World} {lo lo2 a M m d:Nat} {p sh wo qu tr:Int} {A B:Option Addr} {n c:Nat} {zs xs:List Int}
end
end Go.Proofs.YtfhefofkhmkcnaaGreatDoor

/-
 Where answers lie: a set and an answer handed back,apart from what is the caller's own;the least offset searched;a batch gone through.
-/
namespace Go.Proofs.YtfhefofkhmkcnaaGreatDoor
set_option maxRecDepth 100000
set_option maxRecDepth 100000
open Go.RowKit
set_option maxHeartbeats 8000000
set_option linter.unusedVariables false
/-- The list doesn't lie in block g. -/
def Av (g:Nat) (A:Option Addr) (n:Nat):Prop:=0<n→∀ b o,A=some ⟨b,o,none⟩→b≠g
section
variable {k:IntKind} {lo:Nat} {w:World} {A:Option Addr} {n c:Nat} {xs:List Int}
theorem IS.av (h:IS k lo w A n c xs) {g:Nat} (hg:g<lo):Av g A n:=fun hn b o e=>by
 obtain ⟨b',o',e',hl,_⟩:=h.cells hn
 rw [e'] at e
 injection e with e
 injection e with e1 e2
 omega
theorem IS.av_old (h:IS k lo w A n c xs) {g:Nat} (hg:w.heap.size≤g):Av g A n:=fun hn b o e=>by
 obtain ⟨b',o',e',_,hl,_⟩:=h.cells hn
 rw [e'] at e
 injection e with e
 injection e with e1 e2
 omega
theorem Av.nil_ (g:Nat) (A:Option Addr):Av g A 0:=fun h=>absurd h (by omega)
end
/-- A set and a bool. -/
def RetLB (B:Option Addr) (m:Nat) (r:List Int×Bool) (w:World) (e:Ending) (w':World):Prop :=
 ∃ S n c,e=.returned (.tuple #[.slice S n c,.bool r.2])∧IS .i64 0 w' S n c r.1∧(∀ g,g<w.heap.size→Av g B m→Av g S n)∧Below w.heap.size w w'
/-! ### the least offset -/
/-- What is known at a round's head: k is next, j numbers of the set were met. -/
structure LI (zs xs:List Int) (k j:Nat):Prop where
 le:j≤xs.length
 met:∀ i,i<j→gi xs i<(k:Int)
 left:∀ i,j≤i→i<xs.length→(k:Int)≤gi xs i
 none_:∀ i,i<k→fr zs xs i=false
section
variable {zs xs:List Int} {k j M:Nat}
theorem LI.start (hb:∀ x∈xs,0≤x):LI zs xs 0 0:=⟨Nat.zero_le _,fun i hi=>by omega,fun i _ hi=>hb _ (gi_mem hi),fun i hi=>by omega⟩
theorem LI.hit (h:LI zs xs k j) (hr:Ris xs) (hj:j<xs.length) (e:gi xs j=(k:Int)):LI zs xs (k+1) (j+1) :=
 ⟨hj,fun i hi=>by
  rcases Nat.lt_or_ge i j with g | g
  ·have:=h.met i g;omega
  ·obtain rfl:i=j:=by omega
   omega,fun i hi hl=>by have:=hr.lt (i:=j) (j:=i) (by omega) hl;omega,fun i hi=>by
  rcases Nat.lt_or_ge i k with g | g
  ·exact h.none_ i g
  ·obtain rfl:i=k:=by omega
   have:hasB xs (i:Int)=true:=hasB_iff.2 (by rw [← e];exact gi_mem hj)
   unfold fr;simp [this]⟩
theorem LI.out (h:LI zs xs k j) (hr:Ris xs) (e:j<xs.length→gi xs j≠(k:Int)):hasB xs (k:Int)=false:=by
 cases hb:hasB xs (k:Int) with
 | false=>rfl
 | true =>
  obtain ⟨i,hi,e'⟩:=List.mem_iff_getElem.1 (hasB_iff.1 hb)
  rw [← gi_at hi] at e'
  rcases Nat.lt_or_ge i j with g | g
  ·have:=h.met i g;omega
  ·have hj:j<xs.length:=by omega
   have h1:=h.left j (Nat.le_refl _) hj
   have h2:=hr.le g hi
   exact absurd (by omega) (e hj)
theorem LI.held (h:LI zs xs k j) (e:j<xs.length→gi xs j≠(k:Int)) (hr:Ris xs) (hh:hasB zs (k:Int)=true):LI zs xs (k+1) j :=
 ⟨h.le,fun i hi=>by have:=h.met i hi;omega,fun i hi hl=>by
  have h1:=h.left j (Nat.le_refl _) (by omega)
  have h2:=e (by omega)
  have h3:=hr.le hi hl
  omega,fun i hi=>by
  rcases Nat.lt_or_ge i k with g | g
  ·exact h.none_ i g
  ·obtain rfl:i=k:=by omega
   unfold fr;simp [hh]⟩
theorem LI.end_ (h:LI zs xs k j) (hk:M≤k):lea zs xs M=none:=lea_none fun i hi=>h.none_ i (by omega)
end
/-! ### a batch -/
section
variable {a M:Nat} {xs:List Int}
theorem batS_snoc (y:Int):∀ (l:List Int) {xs:List Int},batS a M xs (l ++ [y])=del (batS a M xs l) (ofO a M y.toNat)
 | [],_=>rfl
 | z :: r,xs=>by rw [List.cons_append];unfold batS;exact batS_snoc y r
theorem batE_snoc (y:Int):∀ (l:List Int) {xs:List Int},batE a M xs (l ++ [y])=batE a M xs l ++ [reE (batS a M xs l) (ofO a M y.toNat)]
 | [],_=>rfl
 | z :: r,xs=>by rw [List.cons_append];unfold batE batS;rw [batE_snoc y r];rfl
theorem batS_len:∀ (l:List Int) {xs:List Int},(batS a M xs l).length≤xs.length
 | [],_=>Nat.le_refl _
 | z :: r,xs=>by unfold batS;exact Nat.le_trans (batS_len r) (len_del _ _)
theorem batS_take {ys:List Int} {k:Nat} (hk:k<ys.length):batS a M xs (ys.take (k+1))=del (batS a M xs (ys.take k)) (ofO a M (gi ys k).toNat):=by
 rw [take_gi hk,batS_snoc]
end
end Go.Proofs.YtfhefofkhmkcnaaGreatDoor

/-
 A list that grows by append,beside another list: neither is written through the other.
-/
namespace Go.Proofs.YtfhefofkhmkcnaaGreatDoor
set_option maxRecDepth 100000
set_option maxRecDepth 100000
open Go.RowKit
set_option maxHeartbeats 8000000
/-- The list avoids the block in which the row v lies. -/
def OwnAv (v:Value) (A:Option Addr) (n:Nat):Prop:=∀ g,v.ownBlock=some g→Av g A n
theorem OwnAv.nil_ (A:Option Addr) (n:Nat):OwnAv (.slice none 0 0) A n:=fun g h=>by cases h
section
variable {P:Program} {k:IntKind} {t e:TypeId} {i:TypeInfo}
theorem Ri.blk {w:World} {base n:Nat} {v:Value} {xs:List Int} (h:Ri k e w base v n xs) {g:Nat} (hg:v.ownBlock=some g):g<w.heap.size:=by
 rcases h.2 with ⟨rfl,_⟩ | ⟨g',cap,cur,rfl,_,hh,_⟩
 ·cases hg
 ·have:g'=g:=by simpa [Value.ownBlock] using hg
  subst this
  exact (Array.getElem?_eq_some_iff.1 hh).1
/-- A list that is made anew avoids the row. -/
theorem Ri.av_new {w w':World} {base n:Nat} {v:Value} {xs:List Int} (h:Ri k e w base v n xs) {k':IntKind} {A:Option Addr} {n' c':Nat} {ys:List Int} (hI:IS k' w.heap.size w' A n' c' ys):OwnAv v A n':=fun _ hg=>hI.av (h.blk hg)
/-- append of one number, just laid, and what it does to another list. -/
theorem run_app1k {w:World} {base:Nat} {B:Option Addr} {m d:Nat} {ys:List Int} {x:Int} (ht:P.underlying t=some (.slice e)) (hi:P.info? e=some i) (hz:i.zero=some (.int k 0)) (hsize:i.size=1) (hby:i.bytes=8)
  (hown:Ri k e w base (.slice B m d) m ys) (hn:m+1≤65536) (hbase:base≤w.heap.size) (ty:TypeId)
  {k':IntKind} {lo n' c':Nat} {A:Option Addr} {xs:List Int} (hI:IS k' lo w A n' c' xs) (hav:OwnAv (.slice B m d) A n') :
  ∃ A' c2 w',(Builtin.append_ #[t,t] ty #[.slice B m d,.slice (some ⟨w.heap.size,0,none⟩) 1 1]).run P (w.alloc (.cells #[.int k x] e))=.ok (.slice A' (m+1) c2) w'∧Ri k e w' base (.slice A' (m+1) c2) (m+1) (ys ++ [x])∧Below base w w'∧IS k' lo w' A n' c' xs∧OwnAv (.slice A' (m+1) c2) A n':=by
 have K0:=below_alloc w (.cells #[.int k x] e)
 have hs:=gone (k:=k) (w:=w.alloc (.cells #[.int k x] e)) (x:=x) (g:=w.heap.size) (cell_new w _ _) (by unfold maxLen;omega)
 have hI0:=hI.below K0
 have hav0:=hI.av_old (Nat.le_refl w.heap.size)
 obtain ⟨A',c2,w',hr,O,G,HO⟩:=run_append_onto (P:=P) ht hi hz hsize hby (hown.below K0) hs hn (Nat.le_trans hbase K0.size) ty
 refine ⟨A',c2,w',hr,O,(K0.mono hbase).trans ((Below.refl _ _).grown G (Nat.le_trans hbase K0.size) (fun g hg=>own_ge hown g hg)),hI0.keep G.size (fun b o hn' e hb=>G.block b hb ?_),?_⟩
 ·intro e2
  exact hav b e2.symm hn' b o e rfl
 ·intro g hg
  rcases HO with h1 | h1
  ·exact hav g (h1.symm.trans hg)
  ·rw [h1] at hg
   injection hg with hg
   subst hg
   exact hI.av_old (by simp)
end
end Go.Proofs.YtfhefofkhmkcnaaGreatDoor

/-
 What follows of the document's answers: the set then may be;errors leave it;nothing is granted twice. No program stands here.
-/
namespace Go.Proofs.YtfhefofkhmkcnaaGreatDoor
set_option maxRecDepth 100000
set_option maxRecDepth 100000
open Go.RowKit
set_option maxHeartbeats 8000000
section
variable {a M:Nat} {zs xs:List Int}
theorem okA_ne {x e:Int} (he:e≠0):okA x≠an0 e:=fun h=>he (congrArg Prod.fst h).symm
/-- A Grant answered an offset's address. -/
theorem leg_at {r X:Nat} {ys:List Int} (hr:r<M):legS a M zs xs 1 X ys (okA ((a+r:Nat):Int))=if fr zs xs r=true then (ins xs (r:Int),true) else (xs,false):=by
 have hp:putO 1 (okA ((a+r:Nat):Int))=false:=by
  unfold putO
  rw [decide_eq_false_iff_not]
  rintro ⟨h | h | ⟨h,-⟩,-⟩ <;> exact absurd h (by simp [okA])
 rw [leg_ex hp rfl]
 have e1:(okA ((a+r:Nat):Int)).2.1.toNat=a+r:=rfl
 have e2:ofO a M (a+r)=(r:Int):=by rw [ofO_in ⟨by omega,by omega⟩];omega
 rw [e1]
 unfold someS
 rw [askE_one (.inl rfl),show (((a+r:Nat):Int)).toNat=a+r from rfl]
 cases hz:hasB zs (r:Int) with
 | true =>
  have e3:fiE a M (a+r) zs=4:=by unfold fiE;rw [if_pos ⟨by omega,by omega⟩,show a+r - a=r by omega,if_pos hz]
  have e4:¬ (4:Int)=0:=by omega
  have e5:¬ fr zs xs r=true:=by rw [fr_iff];rintro ⟨h,-⟩;rw [hz] at h;cases h
  rw [e3,if_neg e4,if_neg e5]
  exact if_neg (okA_ne (by omega))
 | false =>
  have e3:fiE a M (a+r) zs=0:=by unfold fiE;rw [if_pos ⟨by omega,by omega⟩,show a+r - a=r by omega,hz];rfl
  rw [e3,if_pos rfl,doS_2,e2]
  cases hx:hasB xs (r:Int) with
  | true =>
   simp only [if_true]
   have e5:¬ fr zs xs r=true:=by rw [fr_iff];rintro ⟨-,h⟩;rw [hx] at h;cases h
   rw [if_neg e5]
   exact if_neg (okA_ne (by omega))
  | false =>
   simp only [Bool.false_eq_true,if_false]
   rw [if_pos (fr_iff.2 ⟨hz,hx⟩)]
   first | exact if_pos rfl | exact if_pos trivial
end
end Go.Proofs.YtfhefofkhmkcnaaGreatDoor

/-
 A release,or a batch,step by step,as functions of numbers and lists;what holds of it whatever others do between. No program in it.
-/
namespace Go.Proofs.YtfhefofkhmkcnaaGreatDoor
set_option maxRecDepth 100000
set_option maxRecDepth 100000
set_option maxRecDepth 100000
open Go.RowKit
set_option maxHeartbeats 8000000
set_option linter.unusedVariables false
/-- Is the operation's bit set in its leaf? Is the leaf the word that was read? -/
def bUs (ys:List Nat) (s:Sc):Bool:=(gt ys s.leaf.toNat).testBit s.bit.toNat
def bEq (ys:List Nat) (s:Sc):Bool:=decide (gt ys s.leaf.toNat=s.word)
/-- A step: the operation, its errors, the cells, whether it takes effect. -/
def bS (a M n:Nat) (xs:List Int) (ys:List Nat) (s:Sc):Sc :=
 if s.phase=8 then (if bUs ys s=true then useS s (gt ys s.leaf.toNat) else freeS a n xs s)
 else if s.phase=9 then (if bEq ys s=true then hitS a n xs s else rdS s)
 else if s.phase=4∨s.phase=5 then stO a M n xs ys s
 else s
def bE (ys:List Nat) (s:Sc) (es:List Int):List Int :=
 if s.phase=8 then (if bUs ys s=true then es else erE s es 6)
 else if s.phase=9 then (if bEq ys s=true then erE s es 0 else es)
 else es
def bC (M:Nat) (ys:List Nat) (s:Sc):List Nat :=
 if s.phase=9 then (if bEq ys s=true then ys.set s.leaf.toNat (drp s.word s.bit.toNat) else ys)
 else if s.phase=4∨s.phase=5 then stC M ys s else ys
def bB (ys:List Nat) (s:Sc):Bool:=if s.phase=8 then !bUs ys s else if s.phase=9 then bEq ys s else false
/-- It begins: its kind, its address, its first offset. -/
def bS0 (k x:Int) (o:Nat):Sc:=⟨k,x,0,0,false,8,0,0,((o/32:Nat):Int),((o%32:Nat):Int),0,false,0,0,0,0⟩
/-- Where it may be: i: which address it is at; es: what it told so far; nm: what it names. -/
inductive BP (nm:List Int) (i:Nat) (s:Sc) (es:List Int):Prop
 | read (h:s.phase=8) (h1:s.kind=4→es.length=i) (h2:s.err=0):BP nm i s es
 | drop (h:s.phase=9) (h1:s.kind=4→es.length=i) (h2:s.err=0) (h3:s.word.testBit s.bit.toNat=true):BP nm i s es
 | mark (h:s.phase=4∨s.phase=5) (h1:s.kind=4→es.length=i+1∧s.err=0) (h2:s.full=false) (h3:s.at_=0∨s.at_=1):BP nm i s es
 | done (h:s.phase=0) (h1:s.kind=4→es.length=i+1∧s.err=0) (h2:i+1=nm.length):BP nm i s es
/-- The offset of the i-th address. -/
def bof (a:Nat) (nm:List Int) (i:Nat):Nat:=(gi nm i).toNat - a
/-- What is named is the block's, and not reserved. -/
def NmOk (a M:Nat) (zs nm:List Int):Prop:=∀ i,i<nm.length→∃ o,o<M∧gi nm i=((a+o:Nat):Int)∧hasB zs (o:Int)=false
structure BI (a M:Nat) (zs xs nm:List Int) (i:Nat) (s:Sc) (es:List Int):Prop where
 kd:(s.kind=3∧nm.length=1∧es=[])∨(s.kind=4∧nm=xs)
 ok:NmOk a M zs nm
 it:s.item=(i:Int)
 il:i<nm.length
 lf:s.leaf=((bof a nm i/32:Nat):Int)
 bt:s.bit=((bof a nm i%32:Nat):Int)
 wd:s.word<18446744073709551616
 aa:s.aad=0
 us:s.used=false
 ph:BP nm i s es
section
variable {a M n i:Nat} {zs xs nm es:List Int} {ys:List Nat} {s:Sc}
theorem NmOk.at_ (h:NmOk a M zs nm) (hi:i<nm.length):bof a nm i<M∧gi nm i=((a+bof a nm i:Nat):Int)∧hasB zs ((bof a nm i:Nat):Int)=false:=by
 obtain ⟨o,h1,h2,h3⟩:=h i hi
 have e:bof a nm i=o:=by unfold bof;rw [h2];omega
 rw [e];exact ⟨h1,h2,h3⟩
theorem NmOk.ofO (h:NmOk a M zs nm) (hi:i<nm.length):ofO a M (gi nm i).toNat=((bof a nm i:Nat):Int):=by
 obtain ⟨h1,h2,_⟩:=h.at_ hi
 rw [ofO_in (by omega)]
 unfold bof
 rfl
theorem BI.fl (h:BI a M zs xs nm i s es):s.leaf.toNat=bof a nm i/32:=by rw [h.lf,Int.toNat_natCast]
theorem BI.fb (h:BI a M zs xs nm i s es):s.bit.toNat=bof a nm i%32:=by rw [h.bt,Int.toNat_natCast]
theorem BI.le (h:BI a M zs xs nm i s es):bof a nm i/32<lv M:=by have:=(h.ok.at_ h.il).1;unfold lv;omega
theorem BI.lts (h:BI a M zs xs nm i s es):s.bit.toNat<32:=by rw [h.fb];omega
theorem bi_btl (hM:M≤65536) (h:BI a M zs xs nm i s es):bt s<64:=by
 have:=h.fl
 have:=h.le
 have:=lv_le hM
 unfold bt
 split <;> omega
theorem bi_start {k x:Int} (hk:k=3∧nm.length=1∨k=4∧nm=xs) (hn:0<nm.length) (hok:NmOk a M zs nm):BI a M zs xs nm 0 (bS0 k x (bof a nm 0)) [] :=
 ⟨hk.imp (fun h=>⟨h.1,h.2,rfl⟩) id,hok,rfl,hn,rfl,rfl,by show 0<_;omega,rfl,rfl,.read rfl (fun _=>rfl) rfl⟩
/-- A step of marking a leaf that isn't full: where it is then. -/
theorem mark_gob (hp:s.phase=4∨s.phase=5) (hf:s.full=false) (hat:s.at_=0∨s.at_=1) (hwd:s.word<18446744073709551616) (hb:bt s<64) (hx:gt ys (hcel M s)<18446744073709551616) :
  ∃ x,x<18446744073709551616∧((s.at_=1∧stO a M n xs ys s=gon a n xs (worded s x))∨(s.phase=4∧stO a M n xs ys s=setp (worded s x))∨(s.at_=0∧stO a M n xs ys s=root_ (worded s x))):=by
 have hdn:∀ x,(s.at_=1∧dn a n xs (worded s x)=gon a n xs (worded s x))∨(s.at_=0∧dn a n xs (worded s x)=root_ (worded s x)):=fun x=>by
  unfold dn ends_ worded
  dsimp only
  rw [hf,Bool.false_and,Bool.or_false]
  rcases hat with h | h
  ·rw [h];exact .inr ⟨rfl,rfl⟩
  ·rw [h];exact .inl ⟨rfl,rfl⟩
 unfold stO
 split
 ·rename_i h4
  unfold lk
  split
  ·refine ⟨_,hx,?_⟩
   rcases hdn (gt ys (hcel M s)) with ⟨e0,e⟩ | ⟨e0,e⟩
   ·exact .inl ⟨e0,e⟩
   ·exact .inr (.inr ⟨e0,e⟩)
  ·exact ⟨_,hx,.inr (.inl ⟨h4,rfl⟩)⟩
 ·refine ⟨mkd s.word (bt s) s.full,mkd_lt _ hwd hb,?_⟩
  rcases hdn (mkd s.word (bt s) s.full) with ⟨e0,e⟩ | ⟨e0,e⟩
  ·exact .inl ⟨e0,e⟩
  ·exact .inr (.inr ⟨e0,e⟩)
/-- What going on comes to: the next address, or the end. -/
theorem gon_b {s':Sc} (hB:BI a M zs xs nm i s es) (hn:xs.length=n) (hk:s'.kind=s.kind) (hi:s'.item=s.item) (hl:s'.leaf=s.leaf) (hb:s'.bit=s.bit) (ha:s'.aad=s.aad) (hu:s'.used=s.used) (he:s.kind=4→s'.err=0) {es':List Int} (he':s.kind=4→es'.length=i+1) (he3:s.kind=3→es'=[]) :
  (i+1<nm.length∧BI a M zs xs nm (i+1) (gon a n xs s') es'∧(gon a n xs s').phase=8)∨(i+1=nm.length∧BI a M zs xs nm i (gon a n xs s') es'∧(gon a n xs s').phase=0∧(gon a n xs s').err=s'.err):=by
 obtain ⟨kd,ok,it,il,lf,bt',wd,aa,us,ph⟩:=hB
 unfold gon
 by_cases hf:fur n s'=true
 ·rw [if_pos hf]
  have h4:s'.kind=4∧0≤s'.item∧s'.item+1<(n:Int):=of_decide_eq_true hf
  rcases kd with ⟨k3,_⟩ | ⟨k4,rfl⟩
  ·omega
  have hi2:s'.item.toNat=i:=by omega
  have hlt:i+1<nm.length:=by omega
  refine .inl ⟨hlt,⟨.inr ⟨hk.trans k4,rfl⟩,ok,?_,hlt,?_,?_,by show 0<_;omega,ha.trans aa,hu.trans us,.read rfl (fun _=>he' k4) (he k4)⟩,rfl⟩
  ·show s'.item+1=_;omega
  ·show ((ofs a nm (s'.item.toNat+1)/32:Nat):Int)=_;rw [hi2];rfl
  ·show ((ofs a nm (s'.item.toNat+1)%32:Nat):Int)=_;rw [hi2];rfl
 ·rw [if_neg hf]
  have h4:¬ (s'.kind=4∧0≤s'.item∧s'.item+1<(n:Int)):=fun h=>hf (decide_eq_true h)
  have hlen:i+1=nm.length:=by
   rcases kd with ⟨k3,l1,_⟩ | ⟨k4,rfl⟩
   ·omega
   ·have:¬ s'.item+1<(n:Int):=fun h=>h4 ⟨hk.trans k4,by omega,h⟩
    omega
  refine .inr ⟨hlen,⟨?_,ok,hi.trans it,il,hl.trans lf,hb.trans bt',by show 0<_;omega,ha.trans aa,hu.trans us,.done rfl (fun h=>⟨he' (hk.symm.trans h),he (hk.symm.trans h)⟩) hlen⟩,rfl,rfl⟩
  rcases kd with ⟨k3,l1,_⟩ | ⟨k4,e⟩
  ·exact .inl ⟨hk.trans k3,l1,he3 k3⟩
  ·exact .inr ⟨hk.trans k4,e⟩
/-- What a step comes to, by its Phase. -/
theorem bs_read (h:s.phase=8):bS a M n xs ys s=(if bUs ys s=true then useS s (gt ys s.leaf.toNat) else freeS a n xs s)∧bE ys s es=(if bUs ys s=true then es else erE s es 6)∧bC M ys s=ys∧bB ys s=!bUs ys s:=by
 refine ⟨?_,?_,?_,?_⟩
 ·unfold bS;rw [if_pos h]
 ·unfold bE;rw [if_pos h]
 ·unfold bC;rw [if_neg (by omega),if_neg (by omega)]
 ·unfold bB;rw [if_pos h]
theorem bs_drop (h:s.phase=9):bS a M n xs ys s=(if bEq ys s=true then hitS a n xs s else rdS s)∧bE ys s es=(if bEq ys s=true then erE s es 0 else es)∧bC M ys s=(if bEq ys s=true then ys.set s.leaf.toNat (drp s.word s.bit.toNat) else ys)∧bB ys s=bEq ys s:=by
 refine ⟨?_,?_,?_,?_⟩
 ·unfold bS;rw [if_neg (by omega),if_pos h]
 ·unfold bE;rw [if_neg (by omega),if_pos h]
 ·unfold bC;rw [if_pos h]
 ·unfold bB;rw [if_neg (by omega),if_pos h]
theorem bs_mark (h:s.phase=4∨s.phase=5):bS a M n xs ys s=stO a M n xs ys s∧bE ys s es=es∧bC M ys s=stC M ys s∧bB ys s=false:=by
 refine ⟨?_,?_,?_,?_⟩
 ·unfold bS;rw [if_neg (by omega),if_neg (by omega),if_pos h]
 ·unfold bE;rw [if_neg (by omega),if_neg (by omega)]
 ·unfold bC;rw [if_neg (by omega),if_pos h]
 ·unfold bB;rw [if_neg (by omega),if_neg (by omega)]
theorem bs_done (h:s.phase=0):bS a M n xs ys s=s∧bE ys s es=es∧bC M ys s=ys∧bB ys s=false:=by
 refine ⟨?_,?_,?_,?_⟩
 ·unfold bS;rw [if_neg (by omega),if_neg (by omega),if_neg (by omega)]
 ·unfold bE;rw [if_neg (by omega),if_neg (by omega)]
 ·unfold bC;rw [if_neg (by omega),if_neg (by omega)]
 ·unfold bB;rw [if_neg (by omega),if_neg (by omega)]
/-- How many addresses are done; how many steps are left, where nobody else does anything. -/
def bdc (i:Nat) (s:Sc):Nat:=if s.phase=8∨s.phase=9 then i else i+1
def bmw (ys:List Nat) (s:Sc):Nat :=
 if s.phase=0 then 0 else if s.phase=5 then (if s.at_=0 then 3 else 1) else if s.phase=4 then (if s.at_=0 then 4 else 2) else if s.phase=9 then (if bEq ys s=true then 5 else 7) else 6
def bmu (ys:List Nat) (s:Sc) (i n:Nat):Nat:=bmw ys s+6*(n - 1 - i)
/-- A step's outcome: it is where it may be; what was told, if it took effect; without an effect the set stays. -/
structure BO (a M n:Nat) (zs xs nm:List Int) (i:Nat) (s:Sc) (es:List Int) (ys:List Nat) (s':Sc) (es':List Int) (ys':List Nat) (b:Bool) (i':Nat):Prop where
 bi:BI a M zs xs nm i' s' es'
 yi:YI M zs ys'
 dc:bdc i' s'=bdc i s+if b=true then 1 else 0
 kk:s'.kind=s.kind∧s'.addr=s.addr
 no:b=false→os (uf zs ys') M=os (uf zs ys) M∧es'=es∧(s.kind=3→s'.err=s.err)
 ef:b=true→bdc i s<nm.length∧os (uf zs ys') M=del (os (uf zs ys) M) ((bof a nm (bdc i s):Nat):Int)∧(s.kind=4→es'=es ++ [reE (os (uf zs ys) M) ((bof a nm (bdc i s):Nat):Int)]∧s'.err=0)∧(s.kind=3→s'.err=reE (os (uf zs ys) M) ((bof a nm (bdc i s):Nat):Int))
 mu:(s.phase=9→bEq ys s=true)→s.phase≠0→bmu ys' s' i' nm.length+1≤bmu ys s i nm.length∧(s'.phase=9→bEq ys' s'=true)
theorem bmw_8 (h:s.phase=8):bmw ys s=6:=by unfold bmw;rw [if_neg (by omega),if_neg (by omega),if_neg (by omega),if_neg (by omega)]
theorem bmw_9 (h:s.phase=9):bmw ys s=if bEq ys s=true then 5 else 7:=by unfold bmw;rw [if_neg (by omega),if_neg (by omega),if_neg (by omega),if_pos h]
theorem bmw_5 (h:s.phase=5):bmw ys s=if s.at_=0 then 3 else 1:=by unfold bmw;rw [if_neg (by omega),if_pos h]
theorem bmw_4 (h:s.phase=4):bmw ys s=if s.at_=0 then 4 else 2:=by unfold bmw;rw [if_neg (by omega),if_neg (by omega),if_pos h]
theorem bmw_0 (h:s.phase=0):bmw ys s=0:=by unfold bmw;rw [if_pos h]
theorem bi_err4 (hB:BI a M zs xs nm i s es) (h4:s.kind=4):s.err=0:=by
 rcases hB.ph with ⟨_,_,h⟩ | ⟨_,_,h,_⟩ | ⟨_,h,_⟩ | ⟨_,h,_⟩
 ·exact h
 ·exact h
 ·exact (h h4).2
 ·exact (h h4).2
theorem gon_keep {s':Sc}:(gon a n xs s').kind=s'.kind∧(gon a n xs s').addr=s'.addr∧(gon a n xs s').err=s'.err:=by
 unfold gon
 split <;> exact ⟨rfl,rfl,rfl⟩
theorem bo_step (hM:M≤65536) (hB:BI a M zs xs nm i s es) (hY:YI M zs ys) (hn:xs.length=n):∃ i',BO a M n zs xs nm i s es ys (bS a M n xs ys s) (bE ys s es) (bC M ys s) (bB ys s) i':=by
 have fl_:=hB.fl
 have fb_:=hB.fb
 have hle:=hB.le
 have hlts:=hB.lts
 have hbt:=bi_btl hM hB
 obtain ⟨hoM,hog,hoh⟩:=hB.ok.at_ hB.il
 have hus:=has_os (zs:=zs) (ys:=ys) hoM hoh
 have hris:Ris (os (uf zs ys) M):=(mayR_iff.1 (os_may M zs ys)).1
 have hB0:=hB
 obtain ⟨kd,ok,it,il,lf,bt',wd,aa,us,ph⟩:=hB
 have hk34:s.kind=3∨s.kind=4:=kd.imp (·.1) (·.1)
 rcases ph with ⟨p,q1,q2⟩ | ⟨p,q1,q2,q3⟩ | ⟨p,q1,q2,q3⟩ | ⟨p,q1,q2⟩
 ·obtain ⟨e1,e2,e3,e4⟩:=bs_read (a:=a) (M:=M) (n:=n) (xs:=xs) (es:=es) (ys:=ys) p
  rw [e1,e2,e3,e4]
  by_cases hu:bUs ys s=true
  ·rw [if_pos hu,if_pos hu,hu]
   have he:bEq ys (useS s (gt ys s.leaf.toNat))=true:=decide_eq_true rfl
   have h5:bmw ys (useS s (gt ys s.leaf.toNat))=5:=by rw [bmw_9 (s:=useS s _) rfl,if_pos he]
   refine ⟨i,⟨kd,ok,it,il,lf,bt',gt_lt hY.fit _,aa,us,.drop rfl q1 q2 hu⟩,hY,?_,⟨rfl,rfl⟩,fun _=>⟨rfl,rfl,fun _=>rfl⟩,fun h=>(by cases h),fun _ _=>⟨?_,fun _=>he⟩⟩
   ·unfold bdc;rw [if_pos (.inr rfl),if_pos (.inl p)];rfl
   ·unfold bmu;rw [h5,bmw_8 p];omega
  ·have hu':bUs ys s=false:=Bool.eq_false_iff.2 hu
   have hno:hasB (os (uf zs ys) M) ((bof a nm i:Nat):Int)=false:=by rw [hus,← fl_,← fb_];exact hu'
   have h6:reE (os (uf zs ys) M) ((bof a nm i:Nat):Int)=6:=by unfold reE;rw [if_neg (by rw [hno];exact Bool.false_ne_true)]
   have hd:bdc i s=i:=by unfold bdc;rw [if_pos (.inl p)]
   rw [if_neg hu,if_neg hu,hu']
   unfold freeS
   obtain ⟨k1,k2,k3⟩:=gon_keep (a:=a) (n:=n) (xs:=xs) (s':=erS s 6)
   have hg:=gon_b (s':=erS s 6) (es':=erE s es 6) hB0 hn rfl rfl rfl rfl rfl rfl (fun h=>by rw [erS_bat h];exact q2) (fun h=>by rw [erE_bat h,List.length_append,q1 h];rfl) (fun h=>by rw [erE_one (by omega)];rcases kd with ⟨_,_,h⟩ | ⟨h,_⟩;exact h;omega)
   have hef:(!false)=true→bdc i s<nm.length∧os (uf zs ys) M=del (os (uf zs ys) M) ((bof a nm (bdc i s):Nat):Int)∧(s.kind=4→erE s es 6=es ++ [reE (os (uf zs ys) M) ((bof a nm (bdc i s):Nat):Int)]∧(gon a n xs (erS s 6)).err=0)∧(s.kind=3→(gon a n xs (erS s 6)).err=reE (os (uf zs ys) M) ((bof a nm (bdc i s):Nat):Int)):=fun _=>by
    rw [hd,h6]
    exact ⟨il,(del_out hris hno).symm,fun h=>⟨erE_bat h,by rw [k3,erS_bat h];exact q2⟩,fun h=>by rw [k3,erS_one (by omega)];rfl⟩
   rcases hg with ⟨g1,g2,g3⟩ | ⟨g1,g2,g3,g4⟩
   ·refine ⟨i+1,g2,hY,?_,⟨k1,k2⟩,fun h=>(by cases h),hef,fun _ _=>⟨?_,fun h=>by omega⟩⟩
    ·rw [hd];unfold bdc;rw [if_pos (.inl g3)];rfl
    ·unfold bmu;rw [bmw_8 g3,bmw_8 p];omega
   ·refine ⟨i,g2,hY,?_,⟨k1,k2⟩,fun h=>(by cases h),hef,fun _ _=>⟨?_,fun h=>by omega⟩⟩
    ·rw [hd];unfold bdc;rw [if_neg (by omega)];rfl
    ·unfold bmu;rw [bmw_0 g3,bmw_8 p];omega
 ·obtain ⟨e1,e2,e3,e4⟩:=bs_drop (a:=a) (M:=M) (n:=n) (xs:=xs) (es:=es) (ys:=ys) p
  rw [e1,e2,e3,e4]
  have hd:bdc i s=i:=by unfold bdc;rw [if_pos (.inr p)]
  by_cases hq:bEq ys s=true
  ·have hx:gt ys s.leaf.toNat=s.word:=of_decide_eq_true hq
   rw [if_pos hq,if_pos hq,if_pos hq,hq]
   have hl:bof a nm i/32<ys.length:=by have:=hY.len;omega
   have hc:ys.set s.leaf.toNat (drp s.word s.bit.toNat)=ys.set (bof a nm i/32) (drp (gt ys (bof a nm i/32)) (bof a nm i%32)):=by rw [← hx,fl_,fb_]
   have hyes:hasB (os (uf zs ys) M) ((bof a nm i:Nat):Int)=true:=by rw [hus,← fl_,← fb_,hx];exact q3
   have h0:reE (os (uf zs ys) M) ((bof a nm i:Nat):Int)=0:=by unfold reE;rw [if_pos hyes]
   have hnf:nf M zs (bof a nm i/32) (bof a nm i%32)=false:=by
    unfold nf
    rw [show 32*(bof a nm i/32)+bof a nm i%32=bof a nm i by omega,hoh,Bool.or_false,decide_eq_false_iff_not]
    omega
   have hYI:YI M zs (ys.set s.leaf.toNat (drp s.word s.bit.toNat)):=by
    rw [hc]
    refine hY.leaf hle (drp_lt _ _) fun k hk hf=>?_
    rw [drp_bit (gt_lt hY.fit _) (Nat.mod_lt _ (by omega)) hk,hY.top _ k hle hk hf]
    have:bof a nm i%32≠k:=by rintro rfl;rw [hnf] at hf;cases hf
    simp [this]
   have hos:os (uf zs (ys.set s.leaf.toNat (drp s.word s.bit.toNat))) M=del (os (uf zs ys) M) ((bof a nm i:Nat):Int):=by rw [hc,os_drop hl hY.fit]
   have hef:∀ s':Sc,s'.err=(erS s 0).err→(true=true→bdc i s<nm.length∧os (uf zs (ys.set s.leaf.toNat (drp s.word s.bit.toNat))) M=del (os (uf zs ys) M) ((bof a nm (bdc i s):Nat):Int)∧(s.kind=4→erE s es 0=es ++ [reE (os (uf zs ys) M) ((bof a nm (bdc i s):Nat):Int)]∧s'.err=0)∧(s.kind=3→s'.err=reE (os (uf zs ys) M) ((bof a nm (bdc i s):Nat):Int))):=fun s' he _=>by
    rw [hd,h0]
    exact ⟨il,hos,fun h=>⟨erE_bat h,by rw [he,erS_bat h];exact q2⟩,fun h=>by rw [he,erS_one (by omega)];rfl⟩
   have hes4:s.kind=4→(erE s es 0).length=i+1:=fun h=>by rw [erE_bat h,List.length_append,q1 h];rfl
   have hes3:s.kind=3→erE s es 0=[]:=fun h=>by rw [erE_one (by omega)];rcases kd with ⟨_,_,h⟩ | ⟨h,_⟩;exact h;omega
   have her4:s.kind=4→(erS s 0).err=0:=fun h=>by rw [erS_bat h];exact q2
   unfold hitS
   by_cases hfl:fl s.word=true
   ·rw [if_pos hfl]
    refine ⟨i,⟨kd.imp (fun h=>⟨h.1,h.2.1,hes3 h.1⟩) id,ok,it,il,lf,bt',by show 0<_;omega,aa,us,.mark (.inl rfl) (fun h=>⟨hes4 h,her4 h⟩) rfl (.inl rfl)⟩,hYI,?_,⟨rfl,rfl⟩,fun h=>(by cases h),hef _ rfl,fun _ _=>⟨?_,fun h=>by cases h⟩⟩
    ·rw [hd];unfold bdc;rw [if_neg (by show ¬ ((4:Int)=8∨(4:Int)=9);omega)];rfl
    ·unfold bmu
     rw [bmw_4 (s:=emS (erS s 0)) rfl,if_pos (show (emS (erS s 0)).at_=0 from rfl),bmw_9 p,if_pos hq];omega
   ·rw [if_neg hfl]
    obtain ⟨k1,k2,k3⟩:=gon_keep (a:=a) (n:=n) (xs:=xs) (s':=erS s 0)
    rcases gon_b (s':=erS s 0) (es':=erE s es 0) hB0 hn rfl rfl rfl rfl rfl rfl her4 hes4 hes3 with ⟨g1,g2,g3⟩ | ⟨g1,g2,g3,g4⟩
    ·refine ⟨i+1,g2,hYI,?_,⟨k1,k2⟩,fun h=>(by cases h),hef _ k3,fun _ _=>⟨?_,fun h=>by omega⟩⟩
     ·rw [hd];unfold bdc;rw [if_pos (.inl g3)];rfl
     ·unfold bmu;rw [bmw_8 g3,bmw_9 p,if_pos hq];omega
    ·refine ⟨i,g2,hYI,?_,⟨k1,k2⟩,fun h=>(by cases h),hef _ k3,fun _ _=>⟨?_,fun h=>by omega⟩⟩
     ·rw [hd];unfold bdc;rw [if_neg (by omega)];rfl
     ·unfold bmu;rw [bmw_0 g3,bmw_9 p,if_pos hq];omega
  ·have hq':bEq ys s=false:=Bool.eq_false_iff.2 hq
   rw [if_neg hq,if_neg hq,if_neg hq,hq']
   refine ⟨i,⟨kd,ok,it,il,lf,bt',by show 0<_;omega,aa,us,.read rfl q1 q2⟩,hY,?_,⟨rfl,rfl⟩,fun _=>⟨rfl,rfl,fun _=>rfl⟩,fun h=>(by cases h),fun h _=>absurd (h p) hq⟩
   rw [hd];unfold bdc;rw [if_pos (.inl rfl)];rfl
 ·obtain ⟨e1,e2,e3,e4⟩:=bs_mark (a:=a) (M:=M) (n:=n) (xs:=xs) (es:=es) (ys:=ys) p
  rw [e1,e2,e3,e4]
  have hd:bdc i s=i+1:=by unfold bdc;rw [if_neg (by omega)]
  have hYI:=stC_yi (s:=s) hM hY wd hbt
  have hos:os (uf zs (stC M ys s)) M=os (uf zs ys) M:=os_leaves fun j hj=>stC_leaf hM hj
  obtain ⟨x,hx,⟨g0,g⟩ | ⟨g0,g⟩ | ⟨g0,g⟩⟩:=mark_gob (a:=a) (M:=M) (n:=n) (xs:=xs) (ys:=ys) p q2 q3 wd hbt (gt_lt hY.fit _)
  ·rw [g]
   have hb1:1≤bmw ys s:=by
    rcases p with p | p
    ·rw [bmw_4 p];split <;> omega
    ·rw [bmw_5 p];split <;> omega
   obtain ⟨k1,k2,k3⟩:=gon_keep (a:=a) (n:=n) (xs:=xs) (s':=worded s x)
   rcases gon_b (s':=worded s x) (es':=es) hB0 hn rfl rfl rfl rfl rfl rfl (fun h=>(q1 h).2) (fun h=>(q1 h).1) (fun h=>by rcases kd with ⟨_,_,h⟩ | ⟨h,_⟩;exact h;omega) with ⟨c1,c2,c3⟩ | ⟨c1,c2,c3,c4⟩
   ·refine ⟨i+1,c2,hYI,?_,⟨k1,k2⟩,fun _=>⟨hos,rfl,fun _=>k3⟩,fun h=>(by cases h),fun _ _=>⟨?_,fun h=>by omega⟩⟩
    ·rw [hd];unfold bdc;rw [if_pos (.inl c3)];rfl
    ·unfold bmu;rw [bmw_8 c3];omega
   ·refine ⟨i,c2,hYI,?_,⟨k1,k2⟩,fun _=>⟨hos,rfl,fun _=>k3⟩,fun h=>(by cases h),fun _ _=>⟨?_,fun h=>by omega⟩⟩
    ·rw [hd];unfold bdc;rw [if_neg (by omega)];rfl
    ·unfold bmu;rw [bmw_0 c3];omega
  ·rw [g]
   refine ⟨i,⟨kd,ok,it,il,lf,bt',hx,aa,us,.mark (.inr rfl) q1 q2 q3⟩,hYI,?_,⟨rfl,rfl⟩,fun _=>⟨hos,rfl,fun _=>rfl⟩,fun h=>(by cases h),fun _ _=>⟨?_,fun h=>by cases h⟩⟩
   ·rw [hd];unfold bdc;rw [if_neg (by show ¬ ((5:Int)=8∨(5:Int)=9);omega)];rfl
   ·unfold bmu
    rw [bmw_5 (s:=setp (worded s x)) rfl,bmw_4 g0]
    show (if s.at_=0 then 3 else 1)+_+1≤_
    split <;> omega
  ·rw [g]
   refine ⟨i,⟨kd,ok,it,il,lf,bt',hx,aa,us,.mark (.inl rfl) q1 q2 (.inr rfl)⟩,hYI,?_,⟨rfl,rfl⟩,fun _=>⟨hos,rfl,fun _=>rfl⟩,fun h=>(by cases h),fun _ _=>⟨?_,fun h=>by cases h⟩⟩
   ·rw [hd];unfold bdc;rw [if_neg (by show ¬ ((4:Int)=8∨(4:Int)=9);omega)];rfl
   ·unfold bmu
    rw [bmw_4 (s:=root_ (worded s x)) rfl,if_neg (by show ¬ (1:Int)=0;omega)]
    rcases p with p | p
    ·rw [bmw_4 p,if_pos g0];omega
    ·rw [bmw_5 p,if_pos g0];omega
 ·obtain ⟨e1,e2,e3,e4⟩:=bs_done (a:=a) (M:=M) (n:=n) (xs:=xs) (es:=es) (ys:=ys) p
  rw [e1,e2,e3,e4]
  exact ⟨i,hB0,hY,rfl,⟨rfl,rfl⟩,fun _=>⟨rfl,rfl,fun _=>rfl⟩,fun h=>(by cases h),fun _ h=>absurd p h⟩
end
end Go.Proofs.YtfhefofkhmkcnaaGreatDoor

/-
 What lodger/batch.Begin and .Step answer. Conditions: a block that may be,a request that is right,as many cells as there are.
-/
namespace Go.Proofs.YtfhefofkhmkcnaaGreatDoor
set_option maxRecDepth 100000
set_option maxRecDepth 100000
set_option maxRecDepth 100000
open Go.RowKit
set_option maxHeartbeats 8000000
set_option linter.unusedVariables false
theorem bar_sz {v0 v1 v2 v3 v4 v5 v6 v7 v8 v9:Value}:(Tryz.prog.info? 201).map (·.size)=some (#[v0,v1,v2,v3,v4,v5,v6,v7,v8,v9]:Array Value).size:=by kernel_rfl
theorem bph0 (w:World):Calls Tryz.prog 185 #[.int .i64 0] w fun e w'=>e=.returned (.func (.func 186) #[] #[])∧Below w.heap.size w w':=by
 go_enter Tryz.func185,Tryz.ntmps185
 go_upto_region 2 with (refine wpList_store_row rfl 201 (.tmp 3) (.tmp 4) rfl _ _ rfl rfl _ _ (Bk.new _ _ _) bar_sz rfl (by simp [Value.oneCell']) ?_)
 have L:=((Loc.start w).alloc #[.nilFunc,.nilFunc,.nilFunc,.nilFunc,.nilFunc,.nilFunc,.nilFunc,.nilFunc,.nilFunc,.nilFunc] 201).row 0 rfl #[.func (.func 186) #[] #[],.nilFunc,.nilFunc,.nilFunc,.func (.func 187) #[] #[],.func (.func 187) #[] #[],.nilFunc,.nilFunc,.func (.func 188) #[] #[],.func (.func 188) #[] #[]]
 try dsimp only [nput] at L
 generalize (w.alloc (.cells #[.nilFunc,.nilFunc,.nilFunc,.nilFunc,.nilFunc,.nilFunc,.nilFunc,.nilFunc,.nilFunc,.nilFunc] 201)).setRow w.heap.size #[.func (.func 186) #[] #[],.nilFunc,.nilFunc,.nilFunc,.func (.func 187) #[] #[],.func (.func 187) #[] #[],.nilFunc,.nilFunc,.func (.func 188) #[] #[],.func (.func 188) #[] #[]]=w1 at L ⊢
 generalize w.heap.size=gX at L ⊢
 have F:=L.at_ 0 0 rfl (v:=.func (.func 186) #[] #[]) rfl
 have F_z:=L.lt 0 rfl
 have E:Sem.run Tryz.prog (binOp BinOp.eql 199 (.func (.func 186) #[] #[]) Value.nilFunc) w1=.ok (.bool false) w1:=by with_unfolding_all rfl
 go_wp2
 go_ret
 exact ⟨rfl,L.K⟩
theorem bph4 (w:World):Calls Tryz.prog 185 #[.int .i64 4] w fun e w'=>e=.returned (.func (.func 187) #[] #[])∧Below w.heap.size w w':=by
 go_enter Tryz.func185,Tryz.ntmps185
 go_upto_region 2 with (refine wpList_store_row rfl 201 (.tmp 3) (.tmp 4) rfl _ _ rfl rfl _ _ (Bk.new _ _ _) bar_sz rfl (by simp [Value.oneCell']) ?_)
 have L:=((Loc.start w).alloc #[.nilFunc,.nilFunc,.nilFunc,.nilFunc,.nilFunc,.nilFunc,.nilFunc,.nilFunc,.nilFunc,.nilFunc] 201).row 0 rfl #[.func (.func 186) #[] #[],.nilFunc,.nilFunc,.nilFunc,.func (.func 187) #[] #[],.func (.func 187) #[] #[],.nilFunc,.nilFunc,.func (.func 188) #[] #[],.func (.func 188) #[] #[]]
 try dsimp only [nput] at L
 generalize (w.alloc (.cells #[.nilFunc,.nilFunc,.nilFunc,.nilFunc,.nilFunc,.nilFunc,.nilFunc,.nilFunc,.nilFunc,.nilFunc] 201)).setRow w.heap.size #[.func (.func 186) #[] #[],.nilFunc,.nilFunc,.nilFunc,.func (.func 187) #[] #[],.func (.func 187) #[] #[],.nilFunc,.nilFunc,.func (.func 188) #[] #[],.func (.func 188) #[] #[]]=w1 at L ⊢
 generalize w.heap.size=gX at L ⊢
 have F:=L.at_ 0 4 rfl (v:=.func (.func 187) #[] #[]) rfl
 have F_z:=L.lt 0 rfl
 have E:Sem.run Tryz.prog (binOp BinOp.eql 199 (.func (.func 187) #[] #[]) Value.nilFunc) w1=.ok (.bool false) w1:=by with_unfolding_all rfl
 go_wp2
 go_ret
 exact ⟨rfl,L.K⟩
theorem bph5 (w:World):Calls Tryz.prog 185 #[.int .i64 5] w fun e w'=>e=.returned (.func (.func 187) #[] #[])∧Below w.heap.size w w':=by
 go_enter Tryz.func185,Tryz.ntmps185
 go_upto_region 2 with (refine wpList_store_row rfl 201 (.tmp 3) (.tmp 4) rfl _ _ rfl rfl _ _ (Bk.new _ _ _) bar_sz rfl (by simp [Value.oneCell']) ?_)
 have L:=((Loc.start w).alloc #[.nilFunc,.nilFunc,.nilFunc,.nilFunc,.nilFunc,.nilFunc,.nilFunc,.nilFunc,.nilFunc,.nilFunc] 201).row 0 rfl #[.func (.func 186) #[] #[],.nilFunc,.nilFunc,.nilFunc,.func (.func 187) #[] #[],.func (.func 187) #[] #[],.nilFunc,.nilFunc,.func (.func 188) #[] #[],.func (.func 188) #[] #[]]
 try dsimp only [nput] at L
 generalize (w.alloc (.cells #[.nilFunc,.nilFunc,.nilFunc,.nilFunc,.nilFunc,.nilFunc,.nilFunc,.nilFunc,.nilFunc,.nilFunc] 201)).setRow w.heap.size #[.func (.func 186) #[] #[],.nilFunc,.nilFunc,.nilFunc,.func (.func 187) #[] #[],.func (.func 187) #[] #[],.nilFunc,.nilFunc,.func (.func 188) #[] #[],.func (.func 188) #[] #[]]=w1 at L ⊢
 generalize w.heap.size=gX at L ⊢
 have F:=L.at_ 0 5 rfl (v:=.func (.func 187) #[] #[]) rfl
 have F_z:=L.lt 0 rfl
 have E:Sem.run Tryz.prog (binOp BinOp.eql 199 (.func (.func 187) #[] #[]) Value.nilFunc) w1=.ok (.bool false) w1:=by with_unfolding_all rfl
 go_wp2
 go_ret
 exact ⟨rfl,L.K⟩
theorem bph8 (w:World):Calls Tryz.prog 185 #[.int .i64 8] w fun e w'=>e=.returned (.func (.func 188) #[] #[])∧Below w.heap.size w w':=by
 go_enter Tryz.func185,Tryz.ntmps185
 go_upto_region 2 with (refine wpList_store_row rfl 201 (.tmp 3) (.tmp 4) rfl _ _ rfl rfl _ _ (Bk.new _ _ _) bar_sz rfl (by simp [Value.oneCell']) ?_)
 have L:=((Loc.start w).alloc #[.nilFunc,.nilFunc,.nilFunc,.nilFunc,.nilFunc,.nilFunc,.nilFunc,.nilFunc,.nilFunc,.nilFunc] 201).row 0 rfl #[.func (.func 186) #[] #[],.nilFunc,.nilFunc,.nilFunc,.func (.func 187) #[] #[],.func (.func 187) #[] #[],.nilFunc,.nilFunc,.func (.func 188) #[] #[],.func (.func 188) #[] #[]]
 try dsimp only [nput] at L
 generalize (w.alloc (.cells #[.nilFunc,.nilFunc,.nilFunc,.nilFunc,.nilFunc,.nilFunc,.nilFunc,.nilFunc,.nilFunc,.nilFunc] 201)).setRow w.heap.size #[.func (.func 186) #[] #[],.nilFunc,.nilFunc,.nilFunc,.func (.func 187) #[] #[],.func (.func 187) #[] #[],.nilFunc,.nilFunc,.func (.func 188) #[] #[],.func (.func 188) #[] #[]]=w1 at L ⊢
 generalize w.heap.size=gX at L ⊢
 have F:=L.at_ 0 8 rfl (v:=.func (.func 188) #[] #[]) rfl
 have F_z:=L.lt 0 rfl
 have E:Sem.run Tryz.prog (binOp BinOp.eql 199 (.func (.func 188) #[] #[]) Value.nilFunc) w1=.ok (.bool false) w1:=by with_unfolding_all rfl
 go_wp2
 go_ret
 exact ⟨rfl,L.K⟩
theorem bph9 (w:World):Calls Tryz.prog 185 #[.int .i64 9] w fun e w'=>e=.returned (.func (.func 188) #[] #[])∧Below w.heap.size w w':=by
 go_enter Tryz.func185,Tryz.ntmps185
 go_upto_region 2 with (refine wpList_store_row rfl 201 (.tmp 3) (.tmp 4) rfl _ _ rfl rfl _ _ (Bk.new _ _ _) bar_sz rfl (by simp [Value.oneCell']) ?_)
 have L:=((Loc.start w).alloc #[.nilFunc,.nilFunc,.nilFunc,.nilFunc,.nilFunc,.nilFunc,.nilFunc,.nilFunc,.nilFunc,.nilFunc] 201).row 0 rfl #[.func (.func 186) #[] #[],.nilFunc,.nilFunc,.nilFunc,.func (.func 187) #[] #[],.func (.func 187) #[] #[],.nilFunc,.nilFunc,.func (.func 188) #[] #[],.func (.func 188) #[] #[]]
 try dsimp only [nput] at L
 generalize (w.alloc (.cells #[.nilFunc,.nilFunc,.nilFunc,.nilFunc,.nilFunc,.nilFunc,.nilFunc,.nilFunc,.nilFunc,.nilFunc] 201)).setRow w.heap.size #[.func (.func 186) #[] #[],.nilFunc,.nilFunc,.nilFunc,.func (.func 187) #[] #[],.func (.func 187) #[] #[],.nilFunc,.nilFunc,.func (.func 188) #[] #[],.func (.func 188) #[] #[]]=w1 at L ⊢
 generalize w.heap.size=gX at L ⊢
 have F:=L.at_ 0 9 rfl (v:=.func (.func 188) #[] #[]) rfl
 have F_z:=L.lt 0 rfl
 have E:Sem.run Tryz.prog (binOp BinOp.eql 199 (.func (.func 188) #[] #[]) Value.nilFunc) w1=.ok (.bool false) w1:=by with_unfolding_all rfl
 go_wp2
 go_ret
 exact ⟨rfl,L.K⟩
section
variable {w w1:World} {lo lo2 a m d M ns N o f lf b X i n0 c0:Nat} {p wo qu tr kd:Int} {A B A0:Option Addr} {n c:Nat} {zs xs nm es:List Int} {ys:List Nat} {h:Hd} {l:Ls} {s:Sc}
theorem bi_in (hB:BI a M zs xs nm i s es):s.kind=4→InB a M xs.length xs:=fun h4=>by
 rcases hB.kd with ⟨h,_⟩ | ⟨_,rfl⟩
 ·omega
 ·intro j hj
  obtain ⟨o,h1,h2,_⟩:=hB.ok j hj
  exact ⟨a+o,h2,by omega,by omega⟩
theorem gb_drop (ha:a<4294967296) (hM:Much a p M) (hB:BI a M zs xs nm i s es) (hY:YI M zs ys) (hU:US w B m d ys) (hL:Lists lo w h ⟨xs,[],es,[]⟩) (hx:xs.length≤65536) (hes:es.length≤64000) (hph:s.phase=8∨s.phase=9) :
  Calls Tryz.prog 188 #[.agg #[.int .u32 (a:Int),.int .i64 p,.slice A n c,.int .i64 (ns:Int),.int .i64 wo,.int .i64 qu,.int .i64 tr],.slice B m d,.agg (opv h s)] w (RetX (bS a M xs.length xs ys s) ⟨xs,[],bE ys s es,[]⟩ m (bC M ys s) (bB ys s) B w):=by
 obtain ⟨z0,z1,z2,z3⟩:=hL.emp_
 simp only [List.length_nil] at z1 z3
 dsimp only at z0 z2
 have hml:=hU.len
 have hyl:=hY.len
 have hlv:=lv_le hM.most
 have htv:=tv_le hM.most
 have hle:=hB.le
 have hin:=bi_in hB
 rw [← z0] at hin
 have hk:s.kind=3∨s.kind=4:=hB.kd.imp (·.1) (·.1)
 have hb5:bof a nm i%32<32:=Nat.mod_lt _ (by omega)
 have fl_:=hB.fl
 have fb_:=hB.fb
 have mono:∀ {s2:Sc} {l2:Ls} {y2:List Nat} {b2:Bool} {e w'},RetStp w.heap.size h.n0 s2 l2 m y2 b2 B w e w'→RetX s2 l2 m y2 b2 B w e w':=by
  rintro s2 l2 y2 b2 e w' ⟨A0,c0,A1,n1,c1,A2,n2,c2,A3,n3,c3,B',d',rfl,U,L',hA,K⟩
  exact ⟨_,_,_,rfl,U,L',hA,K⟩
 rcases hph with hph | hph
 ·obtain ⟨e1,e2,e3,e4⟩:=bs_read (a:=a) (M:=M) (n:=xs.length) (xs:=xs) (es:=es) (ys:=ys) hph
  rw [e1,e2,e3,e4]
  unfold bUs
  rw [fl_,fb_]
  cases hb:(gt ys (bof a nm i/32)).testBit (bof a nm i%32) with
  | true =>
   have R:=dstep_used (w:=w) (a:=a) (p:=p) (sh:=(ns:Int)) (wo:=wo) (qu:=qu) (tr:=tr) (A:=A) (n:=n) (c:=c) (xs:=xs) hL ha hM hL.i0 (by omega) hin (by omega) (by omega) (by omega) hU hB.lf (by omega) hB.bt hb5 hk hph hb
   exact R.mono fun e w' hR=>mono hR
  | false =>
   have R:=dstep_free (w:=w) (a:=a) (p:=p) (sh:=(ns:Int)) (wo:=wo) (qu:=qu) (tr:=tr) (A:=A) (n:=n) (c:=c) (xs:=xs) hL ha hM hL.i0 (by omega) hin (by omega) (by omega) (by omega) hU hB.lf (by omega) hB.bt hb5 hk hph hb
   rw [z0] at R
   exact R.mono fun e w' hR=>mono (by rw [z0];exact hR)
 ·obtain ⟨e1,e2,e3,e4⟩:=bs_drop (a:=a) (M:=M) (n:=xs.length) (xs:=xs) (es:=es) (ys:=ys) hph
  rw [e1,e2,e3,e4]
  unfold bEq
  rw [fl_,fb_]
  by_cases hq:gt ys (bof a nm i/32)=s.word
  ·have R:=dstep_hit (w:=w) (a:=a) (p:=p) (sh:=(ns:Int)) (wo:=wo) (qu:=qu) (tr:=tr) (A:=A) (n:=n) (c:=c) (xs:=xs) hL ha hM hL.i0 (by omega) hin (by omega) (by omega) (by omega) hU hB.lf (by omega) hB.bt hb5 hk hph (by omega) hB.wd hq
   rw [z0] at R
   rw [decide_eq_true hq]
   exact R.mono fun e w' hR=>mono (by rw [z0];exact hR)
  ·have R:=dstep_miss (w:=w) (a:=a) (p:=p) (sh:=(ns:Int)) (wo:=wo) (qu:=qu) (tr:=tr) (A:=A) (n:=n) (c:=c) (xs:=xs) hL ha hM hL.i0 (by omega) hin (by omega) (by omega) (by omega) hU hB.lf (by omega) hB.bt hb5 hk hph (by omega) hB.wd hq
   rw [decide_eq_false hq]
   exact R.mono fun e w' hR=>mono hR
theorem gb_mark (ha:a<4294967296) (hM:Much a p M) (hB:BI a M zs xs nm i s es) (hY:YI M zs ys) (hU:US w B m d ys) (hL:Lists lo w h ⟨xs,[],es,[]⟩) (hx:xs.length≤65536) (hes:es.length≤64000) (hph:s.phase=4∨s.phase=5) :
  Calls Tryz.prog 122 #[.agg #[.int .u32 (a:Int),.int .i64 p,.slice A n c,.int .i64 (ns:Int),.int .i64 wo,.int .i64 qu,.int .i64 tr],.slice B m d,.agg (opv h s)] w fun e w'=>∃ h' B' d',e=.returned (.tuple #[.slice B' m d',.agg (opv h' (bS a M xs.length xs ys s))])∧US w' B' m d' (bC M ys s)∧Lists w.heap.size w' h' ⟨xs,[],bE ys s es,[]⟩∧(∀ k,k<w.heap.size→Apart k B→Apart k B')∧Below w.heap.size w w':=by
 obtain ⟨z0,z1,z2,z3⟩:=hL.emp_
 simp only [List.length_nil] at z1 z3
 dsimp only at z0 z2
 have hml:=hU.len
 have hyl:=hY.len
 have hle:=hB.le
 have hin:=bi_in hB
 rw [← z0] at hin
 obtain ⟨e1,e2,e3,_⟩:=bs_mark (a:=a) (M:=M) (n:=xs.length) (xs:=xs) (es:=es) (ys:=ys) hph
 rw [e1,e2,e3]
 have hat:s.at_=0∨s.at_=1:=by
  rcases hB.ph with ⟨h,_⟩ | ⟨h,_⟩ | ⟨_,_,_,q⟩ | ⟨h,_⟩
  ·omega
  ·omega
  ·exact q
  ·omega
 have R:=step_any (w:=w) (a:=a) (p:=p) (sh:=(ns:Int)) (wo:=wo) (qu:=qu) (tr:=tr) (A:=A) (n:=n) (c:=c) (xs:=xs) ha hM (by omega) hL.i0 hin hL (by omega) (by omega) (by omega) hU (by omega) hB.lf hle hat hph hB.wd
 rw [z0] at R
 refine R.mono ?_
 rintro e w' ⟨A0,c0,A1,c1,A2,c2,A3,c3,B',d',rfl,U,L',hA,K⟩
 exact ⟨_,_,_,rfl,U,L',hA,K⟩
theorem bfirst_3 {kd:Int} (hk:kd=3) :
  Calls Tryz.prog 184 #[.agg #[.int .i64 kd,.int .u32 (X:Int),.slice A0 n0 c0]] w fun e w'=>e=.returned (.int .u32 (X:Int))∧Below w.heap.size w w':=by
 subst hk
 go_enter Tryz.func184,Tryz.ntmps184
 go_upto_region 1 with (fail)
 have L:=Loc.start w
 replace L:=(L).alloc #[.int .i64 3,.int .u32 (X:Int),.slice A0 n0 c0] 30
 try simp only [World.size_alloc] at L
 try dsimp only [nput] at L
 generalize (w).alloc (.cells #[.int .i64 3,.int .u32 (X:Int),.slice A0 n0 c0] 30)=w1 at L ⊢
 generalize w.heap.size=gQ at L ⊢
 have Q_0:=L.at_ 0 0 rfl (v:=.int .i64 3) rfl
 have Q_1:=L.at_ 0 1 rfl (v:=.int .u32 (X:Int)) rfl
 have Q_z:=L.lt 0 rfl
 go_wp2_with fail
 clear Q_0 Q_1 Q_z
 go_ret
 exact ⟨rfl,L.K⟩
theorem bfirst_4 {kd:Int} (hk:kd=4) (hI:IS .u32 lo2 w A0 n0 c0 xs) (hn:0<n0) :
  Calls Tryz.prog 184 #[.agg #[.int .i64 kd,.int .u32 (X:Int),.slice A0 n0 c0]] w fun e w'=>e=.returned (.int .u32 (gi xs 0))∧Below w.heap.size w w':=by
 subst hk
 obtain ⟨bb,oo,hA,hbb,hcc⟩:=hI.get hn
 simp only [Nat.add_zero] at hcc
 subst hA
 have e0:((n0:Int) == 0)=false:=by simp;omega
 have e1:(n0:Int)≠0:=by omega
 have e2:(0:Int)<(n0:Int):=by omega
 go_enter Tryz.func184,Tryz.ntmps184
 go_upto_region 1 with (fail)
 have L:=Loc.start w
 replace L:=(L).alloc #[.int .i64 4,.int .u32 (X:Int),.slice (some ⟨bb,oo,none⟩) n0 c0] 30
 try simp only [World.size_alloc] at L
 try dsimp only [nput] at L
 generalize (w).alloc (.cells #[.int .i64 4,.int .u32 (X:Int),.slice (some ⟨bb,oo,none⟩) n0 c0] 30)=w1 at L ⊢
 generalize w.heap.size=gQ at L ⊢
 have Q_0:=L.at_ 0 0 rfl (v:=.int .i64 4) rfl
 have Q_2:=L.at_ 0 2 rfl (v:=.slice (some ⟨bb,oo,none⟩) n0 c0) rfl
 have Q_z:=L.lt 0 rfl
 go_upto_region 5 with fail
 clear Q_0 Q_2 Q_z
 have Q2:=L.at_ 0 2 rfl (v:=.slice (some ⟨bb,oo,none⟩) n0 c0) rfl
 have Q_z:=L.lt 0 rfl
 have X_:=(L.K.cell (p:=⟨bb,oo,none⟩) hbb).trans hcc
 go_wp2
 go_ret
 exact ⟨rfl,L.K⟩
/-- What beginning answers: an operation with lists in new memory. -/
def RetBB (s:Sc) (l:Ls) (w:World) (e:Ending) (w':World):Prop:=∃ h',e=.returned (.agg (opv h' s))∧Lists w.heap.size w' h' l∧Below w.heap.size w w'
theorem bbegin_any {kd:Int} (ha:a<4294967296) (hM:Much a p M) (hX:X<4294967296) (hk:kd=3∧nm=[(X:Int)]∨kd=4∧nm=xs) (hok:NmOk a M zs nm) (hnm:0<nm.length) (hI:IS .u32 lo2 w A0 n0 c0 xs) (hn0:n0≤65536) :
  Calls Tryz.prog 182 #[.agg #[.int .u32 (a:Int),.int .i64 p,.slice A n c,.int .i64 (ns:Int),.int .i64 wo,.int .i64 qu,.int .i64 tr],.agg #[.int .i64 kd,.int .u32 (X:Int),.slice A0 n0 c0]] w (RetBB (bS0 kd (X:Int) (bof a nm 0)) ⟨xs,[],[],[]⟩ w):=by
 obtain ⟨o1,o2,_⟩:=hok.at_ hnm
 have hfit:=hM.fits ha
 have TF:∀ w,IS .u32 lo2 w A0 n0 c0 xs→Hid (Calls Tryz.prog 184 #[.agg #[.int .i64 kd,.int .u32 (X:Int),.slice A0 n0 c0]] w fun e w'=>e=.returned (.int .u32 ((a+bof a nm 0:Nat):Int))∧Below w.heap.size w w'):=fun w I=>by
  rw [← o2]
  rcases hk with ⟨hk,rfl⟩ | ⟨hk,rfl⟩
  ·exact Lib.hid (bfirst_3 hk)
  ·exact Lib.hid (bfirst_4 hk I (by have:=I.len;omega))
 obtain ⟨o,ho⟩:∃ o,o=bof a nm 0:=⟨_,rfl⟩
 rw [← ho] at TF o1
 have hS9:bS0 kd (X:Int) (bof a nm 0)=bS0 kd (X:Int) o:=by rw [← ho]
 rw [hS9]
 clear hS9 o2 hk hok hnm ho
 obtain ⟨X2,hX2⟩:∃ X2,X2=a+o:=⟨_,rfl⟩
 rw [← hX2] at TF
 have hm9:=hM.most
 obtain ⟨lf,hlf⟩:∃ y,y=o/32:=⟨_,rfl⟩
 obtain ⟨b,hb⟩:∃ y,y=o%32:=⟨_,rfl⟩
 have hS:bS0 kd (X:Int) o=⟨kd,(X:Int),0,0,false,8,0,0,(lf:Int),(b:Int),0,false,0,0,0,0⟩:=by unfold bS0;rw [← hlf,← hb]
 rw [hS]
 clear hS
 have TO:=fun w=>Lib.hid (by have R:=offset_in (w:=w) (p:=p) X2 (by omega) ha hM (by omega) (by omega);rw [show X2 - a=o by omega] at R;exact R)
 have TL:=fun w=>Lib.hid (leaf_any o (by omega) w)
 rw [← hlf,← hb] at TL
 have hL0:Lists 0 w ⟨A0,n0,c0,none,0,0,none,0,0,none,0,0⟩ ⟨xs,[],[],[]⟩:=⟨hI.lower (Nat.zero_le _),IS.none_ _ _ _,IS.none_ _ _ _,IS.none_ _ _ _⟩
 have TOwn:=fun w (L:Lists 0 w ⟨A0,n0,c0,none,0,0,none,0,0,none,0,0⟩ ⟨xs,[],[],[]⟩)=>Lib.hid (ownx (s:=⟨kd,(X:Int),0,0,false,8,0,0,(lf:Int),(b:Int),0,false,0,0,0,0⟩) L hn0 (Nat.zero_le _) (Nat.zero_le _) (Nat.zero_le _))
 clear hlf hb hX2 o1 hm9 hM hX hfit
 go_enter Tryz.func182,Tryz.ntmps182
 go_upto_region 1 with (fail)
 have L:=Loc.start w
 generalize hal:World.alloc _ _=w1
 replace L:=L.a3 hal
 clear hal
 replace L:=L.is0 (opv hd0 sc0) rfl
 generalize w.heap.size+1+1=gR at L ⊢
 generalize w.heap.size+1=gQ at L ⊢
 generalize w.heap.size=gH at L ⊢
 refine rg L fun v2 hHeld=>?_
 replace L:=hHeld
 refine tg 0 10 (.pointer (some ⟨gH,0,none⟩)) rfl hHeld ?_
 refine ty 1 11 (.agg #[.int .u32 (a:Int),.int .i64 p]) rfl ?_ hHeld ?_
 ·intro ww hS
  try dsimp only at hS
  have H_0:=(hS).at_ 2 0 rfl (v:=.int .u32 (a:Int)) rfl
  have H_z:=(hS).lt 2 rfl
  have H_1:=(hS).at_ 2 1 rfl (v:=.int .i64 p) rfl
  have H_z:=(hS).lt 2 rfl
  go_simp
  try with_reducible rfl
  try omega
 refine tR 2 12 3 1 rfl rfl Tryz.underlying30 ak_sz hHeld ?_
 refine rd 3 13 rfl fun K0 hK=>?_
 go_simp
 refine ((TF _ (hI.below L.K)).out).mono ?_
 rintro e w3 ⟨rfl,K'⟩
 replace L:=L.over K'
 refine hK.out _ _ L ?_
 clear hHeld hK K0
 intro hHeld
 clear K'
 try simp only [Act.put,sA,sZ,sS]
 refine rd 4 14 rfl fun K0 hK=>?_
 go_simp
 refine ((TO _).out).mono ?_
 rintro e w4 ⟨rfl,K'⟩
 replace L:=L.over K'
 refine hK.out _ _ L ?_
 clear hHeld hK K0
 intro hHeld
 clear K'
 try simp only [Act.put,sA,sZ,sS]
 refine tz 5 9 rfl hHeld ?_
 refine tg 6 15 (.int .i64 (o:Int)) rfl hHeld ?_
 refine tg 7 16 (.int .i64 0) rfl hHeld ?_
 refine tg 8 5 (.int .i64 (o:Int)) rfl hHeld ?_
 refine tg 9 6 (.int .i64 0) rfl hHeld ?_
 refine wpAnyH_done (by kernel_rfl) ?_ _
 clear hHeld
 go_wp2_with fail
 refine ((TL _).out).mono ?_
 rintro e w' ⟨rfl,rfl⟩
 go_wp2_with (refine wpList_load_row rfl 30 (.tmp 3) rfl gQ rfl _ _ (0,0) _ (L.bk_ 1 rfl) Tryz.underlying30 rfl ak_sz ?_)
 have KS:=L.K.size
 refine ((TOwn _ (hL0.below L.K)).out).mono ?_
 rintro e w5 ⟨h3,rfl,L',K'⟩
 have Lb:=L.lts
 replace L:=L.over K'
 replace L:=L.lists Lb L'
 clear Lb
 try dsimp only [lF,List.cons_append,List.nil_append] at L
 clear L'
 go_wp2_with (refine sO 4 26 (L.bk_ 0 rfl) rfl rfl ?_)
 generalize hal:World.setRow _ _ _=w6
 replace L:=L.rr0 hal
 clear hal
 refine eC Tryz.results182 (L.bk_ 0 rfl) ?_
 exact ⟨_,rfl,(L.lists_at (l:=⟨xs,[],[],[]⟩) 0 rfl).lower_ KS,L.K⟩
theorem bf_mark (ha:a<4294967296) (hM:Much a p M) (hB:BI a M zs xs nm i s es) (hY:YI M zs ys) (hU:US w B m d ys) (hL:Lists lo w h ⟨xs,[],es,[]⟩) (hx:xs.length≤65536) (hes:es.length≤64000) (hph:s.phase=4∨s.phase=5) :
  Calls Tryz.prog 187 #[.agg #[.int .u32 (a:Int),.int .i64 p,.slice A n c,.int .i64 (ns:Int),.int .i64 wo,.int .i64 qu,.int .i64 tr],.slice B m d,.agg (opv h s)] w (RetX (bS a M xs.length xs ys s) ⟨xs,[],bE ys s es,[]⟩ m (bC M ys s) (bB ys s) B w):=by
 have hm0:0<m:=by have:=hU.len;have:=hY.len;omega
 obtain ⟨s2,hs2⟩:∃ s2,s2=bS a M xs.length xs ys s:=⟨_,rfl⟩
 obtain ⟨y2,hy2⟩:∃ y2,y2=bC M ys s:=⟨_,rfl⟩
 obtain ⟨l2,hl2⟩:∃ l2:Ls,l2=⟨xs,[],bE ys s es,[]⟩:=⟨_,rfl⟩
 have TK:=fun w h (U:US w B m d ys) (L:Lists lo w h ⟨xs,[],es,[]⟩)=>Lib.hid (gb_mark (w:=w) (h:=h) (s:=s) (ns:=ns) (wo:=wo) (qu:=qu) (tr:=tr) (A:=A) (n:=n) (c:=c) ha hM hB hY U L hx hes hph)
 rw [(bs_mark (a:=a) (M:=M) (n:=xs.length) (xs:=xs) (es:=es) (ys:=ys) hph).2.2.2]
 simp only [← hs2,← hy2,← hl2] at TK ⊢
 clear hB hY hs2 hy2 hl2 ha hM
 go_enter Tryz.func187,Tryz.ntmps187
 go_upto_region 1 with (fail)
 have L:=Loc.start w
 generalize hal:World.alloc _ _=w1
 replace L:=L.a3 hal
 clear hal
 replace L:=L.is0 (opv hd0 sc0) rfl
 generalize w.heap.size+1+1=gR at L ⊢
 generalize w.heap.size+1=gO at L ⊢
 generalize w.heap.size=gH at L ⊢
 go_wp2_with (first | (refine lC 3 (L.bk_ 2 rfl) ?_) | (refine lO 5 (L.bk_ 1 rfl) ?_))
 have KS:=L.K.size
 refine ((TK _ _ (hU.below L.K) (hL.below L.K)).out).mono ?_
 rintro e w2 ⟨h3,B2,d2,rfl,U,L',hA,K'⟩
 have Lb:=L.lts
 replace L:=L.over K'
 replace L:=L.us_av (fun i b e=>hA b.1 (Lb i b e) (hU.apart0 hm0 L i b e)) U
 replace L:=L.lists Lb L'
 clear Lb
 try dsimp only [lF,List.cons_append,List.nil_append] at L
 clear U L'
 go_upto_region 2 with (refine sO 5 16 (L.bk_ 1 rfl) rfl rfl ?_)
 generalize hal:World.setRow _ _ _=w3
 replace L:=L.rr1 hal
 clear hal
 replace L:=L.drew
 refine wp_region_held_drew (S:=fun w'=>∃ v_R:Array Value,v_R.size=20∧Loc w w' [(gR,43,v_R),(gO,43,opv h3 s2),(gH,27,#[.int .u32 (a:Int),.int .i64 p,.slice A n c,.int .i64 (ns:Int),.int .i64 wo,.int .i64 qu,.int .i64 tr])] [iF .u32 w1.heap.size h3.A0 h3.n0 h3.c0 l2.rqs,iF .u32 w1.heap.size h3.A1 h3.n1 h3.c1 l2.ads,iF .i64 w1.heap.size h3.A2 h3.n2 h3.c2 l2.ers,iF .u64 w1.heap.size h3.A3 h3.n3 h3.c3 l2.ses,uF B2 m d2 y2]) (by kernel_rfl) (⟨_,rfl,L⟩) (fun hHeld=>?_)
 generalize w3.drew=v4 at hHeld L ⊢
 refine tg 0 17 (.slice B2 m d2) rfl hHeld ?_
 refine tl 1 18 (.agg (opv h3 s2)) rfl (yieldsIf_load_row (by rfl) 43 (.tmp 5) rfl gO rfl 43 _ (0,0) _ (fun _ hS=>((hS.choose_spec.2).bk_ 1 rfl)) Tryz.underlying43 rfl op_sz) hHeld ?_
 refine tg 2 6 (.slice B2 m d2) rfl hHeld ?_
 refine rn 3 rfl fun K0 hK=>?_
 rw [if_pos (by rfl)]
 refine wp_store_row 43 (.tmp 7) (.tmp 18) rfl gR _ rfl rfl _ _ (L.bk_ 0 rfl) op_sz rfl (opv_one _ _) ?_
 replace L:=L.row 0 rfl (opv h3 s2)
 try dsimp only [nput] at L
 refine hK.out _ _ ⟨_,rfl,L⟩ ?_
 clear hHeld hK K0
 intro hHeld
 generalize v4.setRow gR (opv h3 s2)=v5 at hHeld L ⊢
 try simp only [Act.put]
 refine tg 4 8 (.bool false) rfl hHeld ?_
 refine wpAnyH_done (by kernel_rfl) ?_ _
 clear hHeld
 go_wp2
 refine eTCT Tryz.results187 (.slice B2 m d2) (.bool false) (L.bk_ 0 rfl) ?_
 exact ⟨_,_,_,rfl,L.us_ 4 rfl,(L.lists_at 0 rfl).lower_ KS,fun k hk=>hA k (Nat.lt_of_lt_of_le hk KS),L.K⟩
theorem bf_stay (ha:a<4294967296) (hM:Much a p M) (hB:BI a M zs xs nm i s es) (hY:YI M zs ys) (hU:US w B m d ys) (hL:Lists lo w h ⟨xs,[],es,[]⟩) (hx:xs.length≤65536) (hes:es.length≤64000) (hph:s.phase=0) :
  Calls Tryz.prog 186 #[.agg #[.int .u32 (a:Int),.int .i64 p,.slice A n c,.int .i64 (ns:Int),.int .i64 wo,.int .i64 qu,.int .i64 tr],.slice B m d,.agg (opv h s)] w (RetX (bS a M xs.length xs ys s) ⟨xs,[],bE ys s es,[]⟩ m (bC M ys s) (bB ys s) B w):=by
 obtain ⟨e1,e2,e3,e4⟩:=bs_done (a:=a) (M:=M) (n:=xs.length) (xs:=xs) (es:=es) (ys:=ys) hph
 rw [e1,e2,e3,e4]
 obtain ⟨z0,z1,z2,z3⟩:=hL.emp_
 simp only [List.length_nil] at z1 z3
 dsimp only at z0 z2
 have TOwn:=fun w (L:Lists lo w h ⟨xs,[],es,[]⟩)=>Lib.hid (ownx (s:=s) L (by omega) (by omega) (by omega) (by omega))
 clear e1 e2 e3 e4 hB hY ha hM z0 z1 z2 z3
 go_enter Tryz.func186,Tryz.ntmps186
 go_upto_region 1 with (fail)
 have L:=Loc.start w
 generalize hal:World.alloc _ _=w1
 replace L:=L.a3 hal
 clear hal
 replace L:=L.is0 (opv hd0 sc0) rfl
 generalize w.heap.size+1+1=gR at L ⊢
 generalize w.heap.size+1=gO at L ⊢
 generalize w.heap.size=gH at L ⊢
 go_wp2_with (refine lO 5 (L.bk_ 1 rfl) ?_)
 have KS:=L.K.size
 refine ((TOwn _ (hL.below L.K)).out).mono ?_
 rintro e w2 ⟨h3,rfl,L',K'⟩
 have Lb:=L.lts
 replace L:=L.over K'
 replace L:=L.lists Lb L'
 clear Lb
 try dsimp only [lF,List.cons_append,List.nil_append] at L
 clear L'
 go_wp2_with (refine sO 7 11 (L.bk_ 0 rfl) rfl rfl ?_)
 generalize hal:World.setRow _ _ _=w3
 replace L:=L.rr0 hal
 clear hal
 refine eTCT Tryz.results186 (.slice B m d) (.bool false) (L.bk_ 0 rfl) ?_
 exact ⟨_,_,_,rfl,hU.below L.K,(L.lists_at (l:=⟨xs,[],es,[]⟩) 0 rfl).lower_ KS,fun k _ h=>h,L.K⟩
theorem bs_to {s2:Sc} {l2:Ls} {y2:List Nat} {b2:Bool} (hff:f=186∨f=187∨f=188) (hm:0<m) (hU:US w B m d ys) (hL:Lists lo w h l)
  (TP:∀ w,Hid (Calls Tryz.prog 185 #[.int .i64 s.phase] w fun e w'=>e=.returned (.func (.func f) #[] #[])∧Below w.heap.size w w'))
  (TK:∀ w,US w B m d ys→Lists lo w h l→Hid (Calls Tryz.prog f #[.agg #[.int .u32 (a:Int),.int .i64 p,.slice A n c,.int .i64 (ns:Int),.int .i64 wo,.int .i64 qu,.int .i64 tr],.slice B m d,.agg (opv h s)] w (RetX s2 l2 m y2 b2 B w))) :
  Calls Tryz.prog 183 #[.agg #[.int .u32 (a:Int),.int .i64 p,.slice A n c,.int .i64 (ns:Int),.int .i64 wo,.int .i64 qu,.int .i64 tr],.slice B m d,.agg (opv h s)] w (RetX s2 l2 m y2 b2 B w):=by
 have hm0:0<m:=hm
 go_enter Tryz.func183,Tryz.ntmps183
 go_upto_region 1 with (fail)
 have L:=Loc.start w
 generalize hal:World.alloc _ _=w1
 replace L:=L.a3 hal
 clear hal
 replace L:=L.is0 (opv hd0 sc0) rfl
 generalize w.heap.size+1+1=gR at L ⊢
 generalize w.heap.size+1=gO at L ⊢
 generalize w.heap.size=gH at L ⊢
 have O_8:=L.at_ 1 8 rfl (v:=.int .i64 s.phase) rfl
 have O_z:=L.lt 1 rfl
 go_wp2_with fail
 refine ((TP _).out).mono ?_
 rintro e w2 ⟨rfl,K'⟩
 clear O_8 O_z
 replace L:=L.over K'
 go_upto_region 2 with (fail)
 rcases hff with rfl | rfl | rfl
 all_goals (
  go_wp2_with (first | (refine lC 3 (L.bk_ 2 rfl) ?_) | (refine lO 5 (L.bk_ 1 rfl) ?_))
  have KS:=L.K.size
  refine ((TK _ (hU.below L.K) (hL.below L.K)).out).mono ?_
  rintro e w3 ⟨h4,B2,d2,rfl,U,L',hA,K'⟩
  have Lb:=L.lts
  replace L:=L.over K'
  replace L:=L.us_av (fun i b e=>hA b.1 (Lb i b e) (hU.apart0 hm0 L i b e)) U
  replace L:=L.lists Lb L'
  clear Lb
  try dsimp only [lF,List.cons_append,List.nil_append] at L
  clear U L'
  go_wp2_with (refine sO 7 19 (L.bk_ 0 rfl) rfl rfl ?_)
  generalize hal:World.setRow _ _ _=w4
  replace L:=L.rr0 hal
  clear hal
  refine eTCT Tryz.results183 (.slice B2 m d2) (.bool b2) (L.bk_ 0 rfl) ?_
  exact ⟨_,_,_,rfl,L.us_ 4 rfl,(L.lists_at 0 rfl).lower_ KS,fun k hk=>hA k (Nat.lt_of_lt_of_le hk KS),L.K⟩)
theorem bs_any (ha:a<4294967296) (hM:Much a p M) (hB:BI a M zs xs nm i s es) (hY:YI M zs ys) (hU:US w B m d ys) (hL:Lists lo w h ⟨xs,[],es,[]⟩) (hx:xs.length≤65536) (hes:es.length≤64000) :
  Calls Tryz.prog 183 #[.agg #[.int .u32 (a:Int),.int .i64 p,.slice A n c,.int .i64 (ns:Int),.int .i64 wo,.int .i64 qu,.int .i64 tr],.slice B m d,.agg (opv h s)] w (RetX (bS a M xs.length xs ys s) ⟨xs,[],bE ys s es,[]⟩ m (bC M ys s) (bB ys s) B w):=by
 have hm0:0<m:=by have:=hU.len;have:=hY.len;omega
 rcases hB.ph with ⟨q,_⟩ | ⟨q,_⟩ | ⟨q | q,_⟩ | ⟨q,_⟩
 ·exact bs_to (f:=188) (by decide) hm0 hU hL (fun w=>Lib.hid (by rw [q];exact bph8 w)) (fun w U L=>Lib.hid (gb_drop ha hM hB hY U L hx hes (.inl q)))
 ·exact bs_to (f:=188) (by decide) hm0 hU hL (fun w=>Lib.hid (by rw [q];exact bph9 w)) (fun w U L=>Lib.hid (gb_drop ha hM hB hY U L hx hes (.inr q)))
 ·exact bs_to (f:=187) (by decide) hm0 hU hL (fun w=>Lib.hid (by rw [q];exact bph4 w)) (fun w U L=>Lib.hid (bf_mark ha hM hB hY U L hx hes (.inl q)))
 ·exact bs_to (f:=187) (by decide) hm0 hU hL (fun w=>Lib.hid (by rw [q];exact bph5 w)) (fun w U L=>Lib.hid (bf_mark ha hM hB hY U L hx hes (.inr q)))
 ·exact bs_to (f:=186) (by decide) hm0 hU hL (fun w=>Lib.hid (by rw [q];exact bph0 w)) (fun w U L=>Lib.hid (bf_stay ha hM hB hY U L hx hes q))
end
end Go.Proofs.YtfhefofkhmkcnaaGreatDoor

/-
 A Snapshot,step by step;what each kind of request's steps tell,held against what is right at once;each alone. No program in it.
-/
namespace Go.Proofs.YtfhefofkhmkcnaaGreatDoor
set_option maxRecDepth 100000
set_option maxRecDepth 100000
set_option maxRecDepth 100000
open Go.RowKit
set_option maxHeartbeats 8000000
set_option linter.unusedVariables false
/-- A step of a Snapshot: the operation, what it has seen, the addresses it tells, whether it takes effect. -/
def nS (M:Nat) (tr:Int) (ys:List Nat) (s:Sc) (sn:List Nat):Sc :=
 if s.phase=6 then (if s.at_+1<(lv M:Int) then swMv s else swAg s)
 else if s.phase=7 then nsA tr (lv M) (gt ys s.at_.toNat) (gt sn s.at_.toNat) s else s
def nN (M:Nat) (ys:List Nat) (s:Sc) (sn:List Nat):List Nat :=
 if s.phase=6 then sn ++ [gt ys s.at_.toNat]
 else if s.phase=7 then (if gt ys s.at_.toNat=gt sn s.at_.toNat then (if s.at_+1<(lv M:Int) then sn else []) else []) else sn
def nD (a M:Nat) (zs:List Int) (ys:List Nat) (s:Sc) (sn:List Nat) (ds:List Int):List Int :=
 if s.phase=7∧gt ys s.at_.toNat=gt sn s.at_.toNat∧¬ s.at_+1<(lv M:Int) then ads a (os (uf zs sn) M) else ds
def nB (M:Nat) (tr:Int) (ys:List Nat) (s:Sc) (sn:List Nat):Bool:=if s.phase=7 then nsAB tr (lv M) (gt ys s.at_.toNat) (gt sn s.at_.toNat) s else false
def nS0:Sc:=⟨6,0,0,0,false,6,0,0,0,0,0,false,0,0,0,0⟩
inductive NP (M:Nat) (s:Sc):List Nat→List Int→Prop
 | first (sn:List Nat) (h:s.phase=6) (h1:s.at_=(sn.length:Int)) (h2:sn.length<lv M) (h3:s.err=0):NP M s sn []
 | again (sn:List Nat) (t:Nat) (h:s.phase=7) (h1:s.at_=(t:Int)) (h2:t<lv M) (h3:sn.length=lv M) (h4:s.err=0):NP M s sn []
 | done (ds:List Int) (h:s.phase=0) (h1:s.err=0∨s.err=11∧ds=[]):NP M s [] ds
structure NI (M tr:Nat) (s:Sc) (sn:List Nat) (ds:List Int):Prop where
 kd:s.kind=6
 tk:0≤s.tries∧s.tries≤(tr:Int)∧(s.phase≠0→s.tries<(tr:Int))
 fit:∀ x∈sn,x<U64
 aa:s.aad=0
 us:s.used=false
 dl:ds.length≤M
 ph:NP M s sn ds
/-- An answer; what an effect tells. -/
def anS (s:Sc) (l:Ls):An:=(s.err,s.aad,s.used,l.ads,l.ers)
def tld (s:Sc) (l:Ls):An:=if s.kind=4∧l.ers≠[] then an0 (l.ers.getLast?.getD 0) else anS s l
section
variable {a M ns tr N o i:Nat} {zs rq nm es ds:List Int} {ys ys0:List Nat} {s:Sc} {sn:List Nat} {X:Nat} {k:Int}
theorem ns_first (h:s.phase=6):nS M tr ys s sn=(if s.at_+1<(lv M:Int) then swMv s else swAg s)∧nN M ys s sn=sn ++ [gt ys s.at_.toNat]∧nD a M zs ys s sn ds=ds∧nB M tr ys s sn=false:=by
 refine ⟨?_,?_,?_,?_⟩
 ·unfold nS;rw [if_pos h]
 ·unfold nN;rw [if_pos h]
 ·unfold nD;rw [if_neg (by omega)]
 ·unfold nB;rw [if_neg (by omega)]
theorem ns_again (h:s.phase=7):nS M tr ys s sn=nsA tr (lv M) (gt ys s.at_.toNat) (gt sn s.at_.toNat) s∧nN M ys s sn=(if gt ys s.at_.toNat=gt sn s.at_.toNat then (if s.at_+1<(lv M:Int) then sn else []) else [])∧nB M tr ys s sn=nsAB tr (lv M) (gt ys s.at_.toNat) (gt sn s.at_.toNat) s:=by
 refine ⟨?_,?_,?_⟩
 ·unfold nS;rw [if_neg (by omega),if_pos h]
 ·unfold nN;rw [if_neg (by omega),if_pos h]
 ·unfold nB;rw [if_pos h]
theorem ns_done (h:s.phase=0):nS M tr ys s sn=s∧nN M ys s sn=sn∧nD a M zs ys s sn ds=ds∧nB M tr ys s sn=false:=by
 refine ⟨?_,?_,?_,?_⟩
 ·unfold nS;rw [if_neg (by omega),if_neg (by omega)]
 ·unfold nN;rw [if_neg (by omega),if_neg (by omega)]
 ·unfold nD;rw [if_neg (by omega)]
 ·unfold nB;rw [if_neg (by omega)]
theorem ni_step (hM0:0<M) (h:NI M tr s sn ds) (hY:∀ x∈ys,x<U64) :
  NI M tr (nS M tr ys s sn) (nN M ys s sn) (nD a M zs ys s sn ds)∧(nB M tr ys s sn=true→s.phase=7∧((nS M tr ys s sn).err=11∨(nS M tr ys s sn).err≠11)∧((nS M tr ys s sn).err=11→nD a M zs ys s sn ds=[])):=by
 have hL:0<lv M:=by unfold lv;omega
 obtain ⟨kd,tk,fit,aa,us,dl,ph⟩:=h
 cases ph with
 | first sn h h1 h2 h3 =>
  obtain ⟨e1,e2,e3,e4⟩:=ns_first (a:=a) (M:=M) (tr:=tr) (zs:=zs) (ys:=ys) (sn:=sn) (ds:=[]) h
  rw [e1,e2,e3,e4]
  have hf:∀ x∈sn ++ [gt ys s.at_.toNat],x<U64:=fun x hx=>by
   rcases List.mem_append.1 hx with h | h
   ·exact fit x h
   ·rw [List.mem_singleton.1 h];exact gt_lt hY _
  refine ⟨?_,fun h=>by cases h⟩
  split
  ·exact ⟨kd,⟨tk.1,tk.2.1,fun _=>tk.2.2 (by omega)⟩,hf,aa,us,dl,.first _ h (by show s.at_+1=_;simp;omega) (by simp;omega) h3⟩
  ·exact ⟨kd,⟨tk.1,tk.2.1,fun _=>tk.2.2 (by omega)⟩,hf,aa,us,dl,.again _ 0 rfl rfl hL (by simp;omega) h3⟩
 | again sn t h h1 h2 h3 h4 =>
  obtain ⟨e1,e2,e4⟩:=ns_again (M:=M) (tr:=tr) (ys:=ys) (sn:=sn) h
  have tk2:=tk.2.2 (by omega)
  rw [e1,e2,e4]
  unfold nsA nsAB nD
  by_cases hx:gt ys s.at_.toNat=gt sn s.at_.toNat
  ·rw [if_pos hx,if_pos hx,if_pos hx]
   by_cases hlt:s.at_+1<(lv M:Int)
   ·rw [if_pos hlt,if_pos hlt,if_neg (fun h=>h.2.2 hlt),decide_eq_false (by omega)]
    exact ⟨⟨kd,⟨tk.1,tk.2.1,fun _=>tk2⟩,fit,aa,us,dl,.again sn (t+1) h (by show s.at_+1=_;omega) (by omega) h3 h4⟩,fun h=>by cases h⟩
   ·rw [if_neg hlt,if_neg hlt,if_pos ⟨h,hx,hlt⟩,decide_eq_true hlt]
    refine ⟨⟨kd,⟨tk.1,tk.2.1,fun h=>absurd rfl h⟩,(fun x h=>by cases h),aa,us,by unfold ads;rw [List.length_map];exact len_os _ _,.done _ rfl (.inl h4)⟩,fun _=>⟨h,by omega,fun he=>?_⟩⟩
    have:s.err=11:=he
    omega
  ·rw [if_neg hx,if_neg hx,if_neg hx,if_neg (c:=s.phase=7∧gt ys s.at_.toNat=gt sn s.at_.toNat∧¬ s.at_+1<(lv M:Int)) (fun h=>hx h.2.1)]
   by_cases ht:s.tries+1=(tr:Int)
   ·rw [if_pos ht,decide_eq_true ht]
    exact ⟨⟨kd,⟨by show 0≤s.tries+1;omega,by show s.tries+1≤_;omega,fun h=>absurd rfl h⟩,(fun x h=>by cases h),aa,us,dl,.done _ rfl (.inr ⟨rfl,rfl⟩)⟩,fun _=>⟨h,by omega,fun _=>rfl⟩⟩
   ·rw [if_neg ht,decide_eq_false ht]
    exact ⟨⟨kd,⟨by show 0≤s.tries+1;omega,by show s.tries+1≤_;omega,fun _=>by show s.tries+1<_;omega⟩,(fun x h=>by cases h),aa,us,dl,.first [] rfl rfl (by simpa using hL) h4⟩,fun h=>by cases h⟩
 | done ds h h1 =>
  obtain ⟨e1,e2,e3,e4⟩:=ns_done (a:=a) (M:=M) (tr:=tr) (zs:=zs) (ys:=ys) (sn:=[]) (ds:=ds) h
  rw [e1,e2,e3,e4]
  exact ⟨⟨kd,tk,fit,aa,us,dl,.done ds h h1⟩,fun h=>by cases h⟩
/-- A Snapshot alone. -/
def nmu (M:Nat) (s:Sc):Nat:=if s.phase=6 then 2*lv M - s.at_.toNat else if s.phase=7 then lv M - s.at_.toNat else 0
def NA (a M:Nat) (zs:List Int) (ys:List Nat) (s:Sc) (sn:List Nat) (ds:List Int):Prop:=(∀ j,j<sn.length→gt sn j=gt ys j)∧(s.phase=0→s.err=0∧ds=ads a (os (uf zs ys) M))
theorem na_step (hM0:0<M) (h:NI M tr s sn ds) (hA:NA a M zs ys s sn ds) (hp:s.phase≠0) :
  nmu M (nS M tr ys s sn)+1≤nmu M s∧NA a M zs ys (nS M tr ys s sn) (nN M ys s sn) (nD a M zs ys s sn ds):=by
 have hL:0<lv M:=by unfold lv;omega
 obtain ⟨kd,tk,fit,aa,us,dl,ph⟩:=h
 obtain ⟨hA1,-⟩:=hA
 cases ph with
 | first sn h h1 h2 h3 =>
  obtain ⟨e1,e2,e3,e4⟩:=ns_first (a:=a) (M:=M) (tr:=tr) (zs:=zs) (ys:=ys) (sn:=sn) (ds:=[]) h
  have e:s.at_.toNat=sn.length:=by rw [h1,Int.toNat_natCast]
  have m6:nmu M s=2*lv M - sn.length:=by unfold nmu;rw [if_pos h,e]
  rw [e1,e2,e3,m6,e]
  have happ:∀ j,j<(sn ++ [gt ys sn.length]).length→gt (sn ++ [gt ys sn.length]) j=gt ys j:=fun j hj=>by
   rw [gt_app]
   split
   ·rename_i h1;exact hA1 j h1
   ·simp at hj;rw [if_pos (by omega),show j=sn.length by omega]
  by_cases hlt:s.at_+1<(lv M:Int)
  ·rw [if_pos hlt]
   refine ⟨?_,happ,fun h=>?_⟩
   ·unfold nmu;rw [if_pos (show (swMv s).phase=6 from h)];show 2*lv M - (s.at_+1).toNat+1≤_;omega
   ·have:s.phase=0:=h;omega
  ·rw [if_neg hlt]
   refine ⟨?_,happ,fun h=>by cases h⟩
   unfold nmu;rw [if_neg (by show ¬ (7:Int)=6;omega),if_pos (show (swAg s).phase=7 from rfl)];show lv M - (0:Int).toNat+1≤_;omega
 | again sn t h h1 h2 h3 h4 =>
  obtain ⟨e1,e2,e4⟩:=ns_again (M:=M) (tr:=tr) (ys:=ys) (sn:=sn) h
  have e:s.at_.toNat=t:=by rw [h1,Int.toNat_natCast]
  have hx:gt ys s.at_.toNat=gt sn s.at_.toNat:=by rw [e];exact (hA1 t (by omega)).symm
  have m7:nmu M s=lv M - t:=by unfold nmu;rw [if_neg (by omega),if_pos h,e]
  rw [e1,e2,m7]
  unfold nsA nD
  rw [if_pos hx,if_pos hx]
  by_cases hlt:s.at_+1<(lv M:Int)
  ·rw [if_pos hlt,if_pos hlt,if_neg (fun h=>h.2.2 hlt)]
   refine ⟨?_,hA1,fun h'=>?_⟩
   ·unfold nmu;rw [if_neg (by show ¬ s.phase=6;omega),if_pos (show (swMv s).phase=7 from h)];show lv M - (s.at_+1).toNat+1≤_;omega
   ·have:s.phase=0:=h';omega
  ·rw [if_neg hlt,if_neg hlt,if_pos ⟨h,hx,hlt⟩]
   refine ⟨?_,(fun j hj=>absurd hj (by simp)),fun _=>⟨h4,?_⟩⟩
   ·unfold nmu;rw [if_neg (by show ¬ (0:Int)=6;omega),if_neg (by show ¬ (0:Int)=7;omega)];omega
   ·rw [os_leaves (ys:=sn) (ys':=ys) fun j hj=>hA1 j (by omega)]
 | done ds h h1=>exact absurd h hp
end
end Go.Proofs.YtfhefofkhmkcnaaGreatDoor

/-
 Where the operation of a request may be;what a step of it comes to,held against what is right at once;alone. No program in it.
-/
namespace Go.Proofs.YtfhefofkhmkcnaaGreatDoor
set_option maxRecDepth 100000
set_option maxRecDepth 100000
set_option maxRecDepth 100000
open Go.RowKit
set_option maxHeartbeats 8000000
set_option linter.unusedVariables false
section
variable {a M ns tr N o i item:Nat} {zs rq nm es ds:List Int} {ys ys0:List Nat} {s:Sc} {l:Ls} {sn:List Nat} {X:Nat} {k:Int}
theorem mapNat_inj {b c:List Nat} (h:b.map Int.ofNat=c.map Int.ofNat):b=c:=by
 have:=congrArg (List.map Int.toNat) h
 simpa [List.map_map,Function.comp_def] using this
/-- What is right at once, kind by kind. -/
theorem put_no {k e:Int} {x:An} (h:x.1=e) (he:e≠10∧e≠12∧e≠11):putO k x=false:=by
 unfold putO
 rw [decide_eq_false_iff_not]
 rintro ⟨h1 | h1 | ⟨h1,_⟩,_⟩ <;> omega
theorem fiE_ok (ho:o<M) (hh:hasB zs (o:Int)=false):fiE a M (a+o) zs=0∧ofO a M (a+o)=(o:Int):=by
 constructor
 ·unfold fiE;rw [if_pos ⟨by omega,by omega⟩,show a+o - a=o by omega,if_neg (by rw [hh];exact Bool.false_ne_true)]
 ·rw [ofO_in ⟨by omega,by omega⟩,show a+o - a=o by omega]
theorem leg_wrong {xs:List Int} {ys:List Int} (he:askE a M zs k X ys≠0):legS a M zs xs k X ys (an0 (askE a M zs k X ys))=(xs,true):=by
 have hr:=askE_rng (a:=a) (M:=M) (zs:=zs) k X ys
 have hp:putO k (an0 (askE a M zs k X ys))=false:=put_no (e:=askE a M zs k X ys) rfl (by omega)
 rw [leg_bad hp (fun h=>he h.2) he,decide_eq_true rfl]
theorem leg_close {xs:List Int} {ys:List Int}:legS a M zs xs 7 X ys (an0 0)=(xs,true):=by
 rw [leg_do (put_no (e:=0) rfl (by omega)) (by rintro ⟨h,_⟩;omega) (askE_free (by omega)),doS_7,if_pos rfl]
theorem leg_2used {xs ys:List Int} (ho:o<M) (hh:hasB zs (o:Int)=false) (hb:hasB xs (o:Int)=true):legS a M zs xs 2 (a+o) ys (an0 5)=(xs,true):=by
 obtain ⟨e1,e2⟩:=fiE_ok (a:=a) ho hh
 rw [leg_do (put_no (e:=5) rfl (by omega)) (by rintro ⟨h,_⟩;omega) (by rw [askE_one (.inl rfl)];exact e1),doS_2,e2,if_pos hb,if_pos rfl]
theorem leg_2free {xs ys:List Int} (ho:o<M) (hh:hasB zs (o:Int)=false) (hb:hasB xs (o:Int)=false):legS a M zs xs 2 (a+o) ys (okA ((a+o:Nat):Int))=(ins xs (o:Int),true):=by
 obtain ⟨e1,e2⟩:=fiE_ok (a:=a) ho hh
 rw [leg_do (put_no (e:=0) rfl (by omega)) (by rintro ⟨h,_⟩;omega) (by rw [askE_one (.inl rfl)];exact e1),doS_2,e2,hb]
 simp only [Bool.false_eq_true,if_false,if_true]
theorem leg_5 {xs ys:List Int} (ho:o<M) (hh:hasB zs (o:Int)=false):legS a M zs xs 5 (a+o) ys (0,0,hasB xs (o:Int),[],[])=(xs,true):=by
 obtain ⟨e1,e2⟩:=fiE_ok (a:=a) ho hh
 rw [leg_do (put_no (e:=0) rfl (by omega)) (by rintro ⟨h,_⟩;omega) (by rw [askE_one (.inr (.inr rfl))];exact e1),doS_5,e2,if_pos rfl]
theorem leg_3 {xs ys:List Int} (ho:o<M) (hh:hasB zs (o:Int)=false):legS a M zs xs 3 (a+o) ys (an0 (reE xs (o:Int)))=(del xs (o:Int),true):=by
 obtain ⟨e1,e2⟩:=fiE_ok (a:=a) ho hh
 have:=reE_rng (xs:=xs) (o:Int)
 rw [leg_do (put_no (e:=reE xs (o:Int)) rfl (by omega)) (by rintro ⟨h,_⟩;omega) (by rw [askE_one (.inr (.inl rfl))];exact e1),doS_3,e2,if_pos rfl]
theorem leg_4 {xs ys:List Int} (he:askE a M zs 4 X ys=0):legS a M zs xs 4 X ys (0,0,false,[],batE a M xs ys)=(batS a M xs ys,true):=by
 rw [leg_do (put_no (e:=0) rfl (by omega)) (by rintro ⟨h,_⟩;omega) he,doS_4,if_pos rfl]
theorem leg_6 {xs ys:List Int}:legS a M zs xs 6 X ys (0,0,false,ads a xs,[])=(xs,true):=by
 rw [leg_do (put_no (e:=0) rfl (by omega)) (by rintro ⟨h,_⟩;omega) (askE_free (by omega)),doS_6,if_pos rfl]
theorem leg_6r {xs ys:List Int}:legS a M zs xs 6 X ys (an0 11)=(xs,true):=by
 unfold legS
 rw [if_pos]
 exact decide_eq_true ⟨.inr (.inr ⟨rfl,rfl⟩),rfl⟩
theorem leg_1full {xs ys:List Int} (hf:fullB M zs xs=true):legS a M zs xs 1 X ys (an0 9)=(xs,true):=by
 rw [leg_do (put_no (e:=9) rfl (by omega)) (by rintro ⟨_,h⟩;exact absurd h (by show ¬ (9:Int)=0;omega)) (askE_free (by omega)),doS_1,lea_full.2 hf]
 exact if_pos rfl
theorem leg_1ok {xs ys:List Int} (ho:o<M) (hh:hasB zs (o:Int)=false) (hb:hasB xs (o:Int)=false):legS a M zs xs 1 X ys (okA ((a+o:Nat):Int))=(ins xs (o:Int),true):=by
 rw [leg_at ho,if_pos (fr_iff.2 ⟨hh,hb⟩)]
/-- The request, or the release of a batch's address. -/
def oneK (k:Int) (rq:List Int) (item:Nat):Int:=if k=4∧item<rq.length then 3 else k
def oneX (k:Int) (X:Nat) (rq:List Int) (item:Nat):Nat:=if k=4∧item<rq.length then (gi rq item).toNat else X
def oneL (k:Int) (rq:List Int) (item:Nat):List Int:=if k=4∧item<rq.length then [] else rq
/-- Where the operation of a right request may be; item: how many of a batch's addresses are done. -/
inductive PI (a M ns tr:Nat) (zs:List Int) (k:Int) (X:Nat) (rq:List Int) (N:Nat) (item:Nat):Sc→Ls→Prop
 | gr (s:Sc) (sn:List Nat) (hk:k=1) (h:GI M ns zs N s sn) (hu:s.used=false) (h0:s.err=9∨s.phase=1∨s.phase=2∨s.phase=3∨s.phase=6∨s.phase=7→s.aad=0):PI a M ns tr zs k X rq N item s (gr rq sn)
 | ex (s:Sc) (o:Nat) (hk:k=2∨k=5) (hk2:s.kind=k) (h:EI a M zs o s) (hX:X=a+o) (h0:s.phase=8∨s.phase=3∨s.err=5∨k=5→s.aad=0) (hu:k=2→s.used=false):PI a M ns tr zs k X rq N item s ⟨rq,[],[],[]⟩
 | ba (s:Sc) (nm es:List Int) (i:Nat) (hk:k=3∨k=4) (hk2:s.kind=k) (h:BI a M zs rq nm i s es) (hnm:nm=nmI k X rq) (hi:item=bdc i s):PI a M ns tr zs k X rq N item s ⟨rq,[],es,[]⟩
 | sn (s:Sc) (sn:List Nat) (ds:List Int) (hk:k=6) (h:NI M tr s sn ds):PI a M ns tr zs k X rq N item s ⟨rq,ds,[],sn.map Int.ofNat⟩
/-- An exact grant alone, with what it makes of the set. -/
def EAS (M:Nat) (zs:List Int) (o:Nat) (ys0 ys:List Nat) (s:Sc):Prop :=
 (usd o ys0=false∧usd o ys=false∧(s.phase=8∨s.phase=3)∧os (uf zs ys) M=os (uf zs ys0) M)∨(usd o ys0=false∧usd o ys=true∧Gtd s∧os (uf zs ys) M=ins (os (uf zs ys0) M) (o:Int))∨(usd o ys0=true∧usd o ys=true∧Not s∧os (uf zs ys) M=os (uf zs ys0) M)
/-- It alone, with so many steps left; ys0: the cells where it began. -/
inductive PA (a M ns:Nat) (zs:List Int) (k:Int) (X:Nat) (rq:List Int) (ys0 ys:List Nat) (left:Nat):Sc→Ls→Prop
 | gr (s:Sc) (sn:List Nat) (eff:Nat) (hk:k=1) (h:GA a M ns zs ys0 ys s sn eff left):PA a M ns zs k X rq ys0 ys left s (gr rq sn)
 | ex (s:Sc) (o:Nat) (hk:k=2∨k=5) (hX:X=a+o) (h1:mux ys s≤left) (h2:k=2→EAS M zs o ys0 ys s) (h5:k=5→(s.phase=0→s.used=hasB (os (uf zs ys) M) (o:Int))∧os (uf zs ys) M=os (uf zs ys0) M):PA a M ns zs k X rq ys0 ys left s ⟨rq,[],[],[]⟩
 | ba (s:Sc) (nm es:List Int) (i:Nat) (hk:k=3∨k=4) (hnm:nm=nmI k X rq) (hit:s.item=(i:Int)) (h9:s.phase=9→bEq ys s=true) (hl:bmu ys s i nm.length≤left) (hS:os (uf zs ys) M=batS a M (os (uf zs ys0) M) (nm.take (bdc i s))) (hE:k=4→es=batE a M (os (uf zs ys0) M) (nm.take (bdc i s))) (h3:k=3→bdc i s=1→s.err=reE (os (uf zs ys0) M) ((bof a nm 0:Nat):Int)):PA a M ns zs k X rq ys0 ys left s ⟨rq,[],es,[]⟩
 | sn (s:Sc) (sn:List Nat) (ds:List Int) (hk:k=6) (hl:nmu M s≤left) (h:NA a M zs ys s sn ds) (he:os (uf zs ys) M=os (uf zs ys0) M):PA a M ns zs k X rq ys0 ys left s ⟨rq,ds,[],sn.map Int.ofNat⟩
/-- The effect comes late: it tells of an earlier time. -/
def late (s s':Sc):Bool:=decide (s.phase=7) && !decide (s'.err=11)
/-- What a step comes to. -/
structure PO (a M ns tr:Nat) (zs:List Int) (k:Int) (X:Nat) (rq:List Int) (N:Nat) (item:Nat) (s:Sc) (l:Ls) (ys:List Nat) (s':Sc) (l':Ls) (ys':List Nat) (b:Bool):Prop where
 inv:PI a M ns tr zs k X rq (N+1) (item+if (b && !late s s')=true then 1 else 0) s' l'
 yi:YI M zs ys'
 ef:b=true→late s s'=false→legS a M zs (os (uf zs ys) M) (oneK k rq item) (oneX k X rq item) (oneL k rq item) (tld s' l')=(os (uf zs ys') M,true)
 no:(b && !late s s')=false→os (uf zs ys') M=os (uf zs ys) M
 al:∀ ys0 left,s.phase≠0→PA a M ns zs k X rq ys0 ys left s l→1≤left∧PA a M ns zs k X rq ys0 ys' (left - 1) s' l'
/-- Snapshots. -/
theorem po_sn (hM0:0<M) (hk:k=6) (h:NI M tr s sn ds) (hY:YI M zs ys) :
  PO a M ns tr zs k X rq N item s ⟨rq,ds,[],sn.map Int.ofNat⟩ ys (nS M tr ys s sn) ⟨rq,nD a M zs ys s sn ds,[],(nN M ys s sn).map Int.ofNat⟩ ys (nB M tr ys s sn):=by
 obtain ⟨h1,h2⟩:=ni_step (a:=a) (zs:=zs) hM0 h hY.fit
 refine ⟨.sn _ _ _ hk h1,hY,fun hb hl=>?_,fun _=>rfl,fun ys0 left hp hA=>?_⟩
 ·obtain ⟨p7,_,hd⟩:=h2 hb
  have he:(nS M tr ys s sn).err=11:=by
   unfold late at hl
   rw [decide_eq_true p7,Bool.true_and] at hl
   simpa using hl
  subst hk
  have e1:oneK 6 rq item=6:=by unfold oneK;rw [if_neg (by omega)]
  have e2:tld (nS M tr ys s sn) ⟨rq,nD a M zs ys s sn ds,[],(nN M ys s sn).map Int.ofNat⟩=an0 11:=by
   unfold tld anS
   rw [if_neg (fun h=>h.2 rfl),he,h1.aa,h1.us,hd he];rfl
  rw [e1,e2];exact leg_6r
 ·generalize hl2:(⟨rq,ds,[],sn.map Int.ofNat⟩:Ls)=l2 at hA
  cases hA with
  | gr _ _ hk1=>omega
  | ex _ hk1=>omega
  | ba _ _ _ hk1=>omega
  | sn sn2 ds2 _ hl hN he =>
   injection hl2 with q1 q2 q3 q4
   subst q2
   have hs:sn2=sn:=mapNat_inj q4.symm
   subst hs
   obtain ⟨m1,m2⟩:=na_step (a:=a) (zs:=zs) (ys:=ys) hM0 h hN hp
   exact ⟨by omega,.sn _ _ _ hk (by omega) m2 he⟩
/-- Releases, and batches. -/
theorem po_ba (hM:M≤65536) (hk:k=3∨k=4) (hk2:s.kind=k) (hB:BI a M zs rq nm i s es) (hnm:nm=nmI k (X:Int) rq) (hi:item=bdc i s) (hY:YI M zs ys) :
  PO a M ns tr zs k X rq N item s ⟨rq,[],es,[]⟩ ys (bS a M rq.length rq ys s) ⟨rq,[],bE ys s es,[]⟩ (bC M ys s) (bB ys s):=by
 obtain ⟨i',B⟩:=bo_step (n:=rq.length) hM hB hY rfl
 have hl:late s (bS a M rq.length rq ys s)=false:=by
  unfold late
  rw [decide_eq_false,Bool.false_and]
  rcases hB.ph with ⟨h,_⟩ | ⟨h,_⟩ | ⟨h,_⟩ | ⟨h,_⟩ <;> omega
 have hn3:k=3→nm=[(X:Int)]:=fun h=>by rw [hnm,nmI_one (.inr (.inl h))]
 have hn4:k=4→nm=rq:=fun h=>by rw [hnm,h,nmI_all]
 refine ⟨?_,B.yi,fun hb _=>?_,fun hb=>?_,fun ys0 left hp hA=>?_⟩
 ·refine .ba _ nm _ i' hk (B.kk.1.trans hk2) B.bi hnm ?_
  rw [hl,Bool.not_false,Bool.and_true,hi,B.dc]
 ·obtain ⟨f1,f2,f3,f4⟩:=B.ef hb
  obtain ⟨q1,q2,q3⟩:=B.bi.ok.at_ f1
  rw [← hi] at f1 f2 f3 f4 q1 q2 q3
  rw [f2]
  have hkd':(bS a M rq.length rq ys s).kind=k:=B.kk.1.trans hk2
  rcases hk with hk | hk
  ·have e0:item=0:=by rw [hn3 hk] at f1;simp at f1;exact f1
   have eX:X=a+bof a nm item:=by
    rw [e0,hn3 hk] at q2
    rw [e0,hn3 hk]
    have:gi [(X:Int)] 0=(X:Int):=rfl
    omega
   have he:bE ys s es=[]:=by
    rcases B.bi.kd with ⟨_,_,h⟩ | ⟨h,_⟩
    ·exact h
    ·omega
   have e1:oneK k rq item=3:=by unfold oneK;rw [if_neg (by omega),hk]
   have e2:oneX k X rq item=a+bof a nm item:=by unfold oneX;rw [if_neg (by omega),← eX]
   have e3:tld (bS a M rq.length rq ys s) ⟨rq,[],bE ys s es,[]⟩=an0 (reE (os (uf zs ys) M) ((bof a nm item:Nat):Int)):=by
    unfold tld anS
    rw [if_neg (by rintro ⟨h,_⟩;omega),f4 (by omega),B.bi.aa,B.bi.us,he];rfl
   rw [e1,e2,e3]
   exact leg_3 q1 q3
  ·have hnr:=hn4 hk
   have hlt:item<rq.length:=by rw [← hnr];exact f1
   obtain ⟨f5,_⟩:=f3 (by omega)
   have e1:oneK k rq item=3:=by unfold oneK;rw [if_pos ⟨hk,hlt⟩]
   have e2:oneX k X rq item=a+bof a nm item:=by
    unfold oneX;rw [if_pos ⟨hk,hlt⟩]
    rw [hnr] at q2
    rw [q2,hnr];rfl
   have e3:tld (bS a M rq.length rq ys s) ⟨rq,[],bE ys s es,[]⟩=an0 (reE (os (uf zs ys) M) ((bof a nm item:Nat):Int)):=by
    unfold tld
    rw [f5,if_pos ⟨by omega,by simp⟩]
    simp
   rw [e1,e2,e3]
   exact leg_3 q1 q3
 ·rw [hl,Bool.not_false,Bool.and_true] at hb
  exact (B.no hb).1
 ·generalize hl2:(⟨rq,[],es,[]⟩:Ls)=l2 at hA
  cases hA with
  | gr _ _ hk1=>omega
  | ex _ hk1=>omega
  | sn _ _ hk1=>omega
  | ba nm2 es2 i2 _ hnm2 hit h9 hlf hS hE h3 =>
   injection hl2 with q1 q2 q3 q4
   subst q3
   have hnn:nm2=nm:=hnm2.trans hnm.symm
   subst hnn
   have hii:i2=i:=by have:=hB.it;omega
   subst hii
   obtain ⟨m1,m2⟩:=B.mu h9 hp
   have hk':(bS a M rq.length rq ys s).kind=k:=B.kk.1.trans hk2
   refine ⟨by omega,.ba _ nm2 _ i' hk hnm B.bi.it m2 (by omega) ?_ (fun h4=>?_) (fun h3' hd=>?_)⟩
   ·rw [B.dc]
    cases hb:bB ys s with
    | false=>rw [if_neg Bool.false_ne_true,Nat.add_zero,(B.no hb).1];exact hS
    | true =>
     obtain ⟨f1,f2,_⟩:=B.ef hb
     rw [if_pos rfl,f2,batS_take f1,hB.ok.ofO f1,hS]
   ·rw [B.dc]
    cases hb:bB ys s with
    | false=>rw [if_neg Bool.false_ne_true,Nat.add_zero,(B.no hb).2.1];exact hE h4
    | true =>
     obtain ⟨f1,f2,f3,_⟩:=B.ef hb
     rw [if_pos rfl,(f3 (by omega)).1,List.take_succ_eq_append_getElem f1,batE_snoc,← gi_at f1,hB.ok.ofO f1,← hS,hE h4]
   ·have hd':=B.dc
    cases hb:bB ys s with
    | false =>
     rw [hb,if_neg Bool.false_ne_true,Nat.add_zero] at hd'
     rw [(B.no hb).2.2 (by omega)];exact h3 h3' (by omega)
    | true =>
     obtain ⟨f1,f2,_,f4⟩:=B.ef hb
     rw [hb,if_pos rfl] at hd'
     have e0:bdc i2 s=0:=by omega
     rw [e0] at f4 hS
     rw [f4 (by omega),hS];rfl
/-- Exact grants, and questions. -/
theorem ex_aux (hM:M≤65536) (hE:EI a M zs o s) (hY:YI M zs ys) (hk2:s.kind=k) (h0:s.phase=8∨s.phase=3∨s.err=5∨k=5→s.aad=0) (hu:k=2→s.used=false) :
  ((eS a M ys s).phase=8∨(eS a M ys s).phase=3∨(eS a M ys s).err=5∨k=5→(eS a M ys s).aad=0)∧(k=2→(eS a M ys s).used=false)∧(k=5→(eS a M ys s).err=0):=by
 have hbt:=ei_btl hM hE
 have hk4:=hE.k4
 obtain ⟨oM,hh,kd,lf,bt',it,wd,ph⟩:=hE
 rcases ph with ⟨p1,p2⟩ | ⟨p1,p2,p3,p4⟩ | ⟨p1,p2,p3,p4,p5,p6⟩ | ⟨p1,p2⟩
 ·have z:=h0 (.inl p1)
  rw [(es_read (a:=a) (M:=M) (ys:=ys) p1).1]
  unfold xkS
  by_cases hk:s.kind=2
  ·rw [if_pos hk]
   split
   ·exact ⟨fun _=>z,hu,fun h=>by omega⟩
   ·exact ⟨fun _=>z,hu,fun h=>by omega⟩
  ·rw [if_neg hk];exact ⟨fun _=>z,fun h=>by omega,fun _=>p2⟩
 ·have z:=h0 (.inr (.inl p1))
  rw [(es_claim (a:=a) (M:=M) (ys:=ys) p1).1]
  unfold claimS
  split
  ·split
   ·refine ⟨fun h=>?_,hu,fun h=>by omega⟩
    have h:(4:Int)=8∨(4:Int)=3∨s.err=5∨k=5:=h
    omega
   ·rw [gon_no (show (adS s _).kind≠4 from hk4)]
    refine ⟨fun h=>?_,hu,fun h=>by omega⟩
    have h:(0:Int)=8∨(0:Int)=3∨s.err=5∨k=5:=h
    omega
  ·exact ⟨fun _=>z,hu,fun h=>by omega⟩
 ·rw [(es_mark (a:=a) (M:=M) (ys:=ys) p1).1]
  obtain ⟨x,hx,q | ⟨_,q⟩ | ⟨_,q⟩⟩:=mark_go (a:=a) (M:=M) (ys:=ys) hk4 p1 p3 p4 wd hbt (gt_lt hY.fit _)
  ·rw [q]
   refine ⟨fun h=>?_,hu,fun h=>by omega⟩
   have h:(0:Int)=8∨(0:Int)=3∨s.err=5∨k=5:=h
   omega
  ·rw [q]
   refine ⟨fun h=>?_,hu,fun h=>by omega⟩
   have h:(5:Int)=8∨(5:Int)=3∨s.err=5∨k=5:=h
   omega
  ·rw [q]
   refine ⟨fun h=>?_,hu,fun h=>by omega⟩
   have h:(4:Int)=8∨(4:Int)=3∨s.err=5∨k=5:=h
   omega
 ·rw [(es_done (a:=a) (M:=M) (ys:=ys) p1).1]
  refine ⟨fun h=>h0 (by omega),hu,fun h=>?_⟩
  omega
theorem eas_step (hM:M≤65536) (hE:EI a M zs o s) (hY:YI M zs ys) (hk:s.kind=2) (hA:EAS M zs o ys0 ys s):EAS M zs o ys0 (gC M ys s) (eS a M ys s):=by
 rcases hA with ⟨q1,q2,q3,q4⟩ | ⟨q1,q2,q3,q4⟩ | ⟨q1,q2,q3,q4⟩
 ·rcases gtd_free hM hE hY hk q2 q3 with ⟨g1,g2,g3⟩ | ⟨g1,g2,g3⟩
  ·exact .inl ⟨q1,g1,g2,g3.trans q4⟩
  ·exact .inr (.inl ⟨q1,g1,g2,by rw [g3,q4]⟩)
 ·obtain ⟨g1,g2,g3,_⟩:=gtd_used hM hE hY hk q2
  exact .inr (.inl ⟨q1,g1,g3 q3,g2.trans q4⟩)
 ·obtain ⟨g1,g2,_,g4⟩:=gtd_used hM hE hY hk q2
  exact .inr (.inr ⟨q1,g1,g4 q3,g2.trans q4⟩)
theorem po_ex (hM:M≤65536) (hfit:a+M≤4294967296) (hk:k=2∨k=5) (hk2:s.kind=k) (hE:EI a M zs o s) (hX:X=a+o) (h0:s.phase=8∨s.phase=3∨s.err=5∨k=5→s.aad=0) (hu:k=2→s.used=false) (hY:YI M zs ys) :
  PO a M ns tr zs k X rq N item s ⟨rq,[],[],[]⟩ ys (eS a M ys s) ⟨rq,[],[],[]⟩ (gC M ys s) (eB ys s):=by
 obtain ⟨i1,i2⟩:=ei_step hM hfit hE hY
 obtain ⟨a1,a2,a3⟩:=ex_aux hM hE hY hk2 h0 hu
 obtain ⟨_,f1,f2,f3⟩:=e_eff hM hfit hE hY
 have hkk:=es_kind hM hE hY
 have hl:late s (eS a M ys s)=false:=by
  unfold late
  rw [decide_eq_false,Bool.false_and]
  rcases hE.ph with ⟨h,_⟩ | ⟨h,_⟩ | ⟨h,_⟩ | ⟨h,_⟩ <;> omega
 have e1:oneK k rq item=k:=by unfold oneK;rw [if_neg (by omega)]
 have e2:oneX k X rq item=a+o:=by unfold oneX;rw [if_neg (by omega),hX]
 have e3:tld (eS a M ys s) ⟨rq,[],[],[]⟩=((eS a M ys s).err,(eS a M ys s).aad,(eS a M ys s).used,[],[]):=by unfold tld;rw [if_neg (fun h=>h.2 rfl)];rfl
 refine ⟨.ex _ o hk (hkk.trans hk2) i1 hX a1 a2,i2,fun hb _=>?_,fun hb=>?_,fun ys0 left hp hA=>?_⟩
 ·rw [e1,e2,e3]
  rcases hk with rfl | rfl
  ·rcases f3 hb hk2 with ⟨g1,g2,g3⟩ | ⟨g1,g2,g3,g4⟩
   ·rw [g1,a1 (.inr (.inr (.inl g1))),a2 rfl,g2];exact leg_2used hE.oM hE.hh g3
   ·rw [g1,g2,a2 rfl,g4];exact leg_2free hE.oM hE.hh g3
  ·obtain ⟨g1,g2⟩:=f2 hb hk2
   rw [a3 rfl,a1 (.inr (.inr (.inr rfl))),g2,g1];exact leg_5 hE.oM hE.hh
 ·rw [hl,Bool.not_false,Bool.and_true] at hb
  exact f1 hb
 ·generalize hl2:(⟨rq,[],[],[]⟩:Ls)=l2 at hA
  cases hA with
  | gr _ _ hk1=>clear f1 f2 f3 a1 a2 a3;omega
  | ba _ _ _ hk1=>clear f1 f2 f3 a1 a2 a3;omega
  | sn _ _ hk1=>clear f1 f2 f3 a1 a2 a3;omega
  | ex o2 _ hX2 h1 h2 h5 =>
   have:o2=o:=Nat.add_left_cancel (hX2.symm.trans hX)
   subst this
   have hm:=mux_step hM hE hY hp
   refine ⟨by omega,.ex _ o2 hk hX (by omega) (fun h=>eas_step hM hE hY (by omega) (h2 h)) (fun h=>?_)⟩
   obtain ⟨h5a,h5b⟩:=h5 h
   rcases hE.ph with ⟨p1,p2⟩ | ⟨p1,p2,_⟩ | ⟨p1,p2,_⟩ | ⟨p1,p2⟩
   ·have hb:eB ys s=true:=by unfold eB;rw [if_pos p1,decide_eq_false (by omega)];rfl
    obtain ⟨g1,g2⟩:=f2 hb (by omega)
    rw [g1];exact ⟨fun _=>g2,h5b⟩
   ·omega
   ·omega
   ·exact absurd p1 hp
/-- Grants. -/
theorem gs_keep (hM:M≤65536) (hM0:0<M) (hns:1≤ns) (hG:GI M ns zs N s sn) (hY:YI M zs ys) (h0:s.err=9∨s.phase=1∨s.phase=2∨s.phase=3∨s.phase=6∨s.phase=7→s.aad=0) :
  (gS a M ns ys s sn).used=s.used∧((gS a M ns ys s sn).err=9∨(gS a M ns ys s sn).phase=1∨(gS a M ns ys s sn).phase=2∨(gS a M ns ys s sn).phase=3∨(gS a M ns ys s sn).phase=6∨(gS a M ns ys s sn).phase=7→(gS a M ns ys s sn).aad=0):=by
 have hph:=hG.ph
 have hkd:=hG.kd
 have her:=hG.er
 have hwd:=hG.wd
 cases hph with
 | done q1 =>
  have eS:gS a M ns ys s []=s:=(gp_done hG q1).1
  rw [eS];exact ⟨rfl,h0⟩
 | seek k t q1 q2 q3 q4 q5 =>
  have z:=h0 (by omega)
  have e:s.sought.toNat=k:=by rw [q2,Int.toNat_natCast]
  have eS:gS a M ns ys s []=skS (ns:Int) M ys (sa M ns s.shard.toNat k) (sb M ns s.shard.toNat k) s:=by unfold gS;rw [if_pos q1,e]
  rw [eS]
  rcases seek_mv (M:=M) (ys:=ys) (hd:=s.shard.toNat) hns q2 q3 q4 hwd (gt_lt hY.fit _) with ⟨u,x,g1,g2,g3,g4⟩ | ⟨i,g1,g2⟩ | ⟨g1,g2⟩ | ⟨g1,g2⟩
  ·rw [g4];exact ⟨rfl,fun _=>z⟩
  ·rw [g2];exact ⟨rfl,fun _=>z⟩
  ·rw [g2];exact ⟨rfl,fun _=>z⟩
  ·rw [g2];exact ⟨rfl,fun _=>z⟩
 | look i q1 q2 q3 =>
  have z:=h0 (by omega)
  have eS:gS a M ns ys s []=lookS (ns:Int) (gt ys s.leaf.toNat) s:=by unfold gS;rw [if_neg (by omega),if_pos q1]
  rw [eS]
  unfold lookS
  split
  ·exact ⟨rfl,fun _=>z⟩
  ·split <;> exact ⟨rfl,fun _=>z⟩
 | claim i b q1 q2 q3 q4 q5 q6 q7 =>
  have z:=h0 (by omega)
  have er0:=her (by omega)
  have eS:gS a M ns ys s []=claimS a 0 [] (gt ys s.leaf.toNat) s:=by unfold gS;rw [if_neg (by omega),if_neg (by omega),if_pos q1]
  rw [eS]
  rcases claim_mv (a:=a) hkd (gt ys s.leaf.toNat) with ⟨g0,g | g⟩ | ⟨g0,g,gp⟩
  ·rw [g]
   refine ⟨rfl,fun h=>?_⟩
   have h:s.err=9∨(4:Int)=1∨(4:Int)=2∨(4:Int)=3∨(4:Int)=6∨(4:Int)=7:=h
   omega
  ·rw [g]
   refine ⟨rfl,fun h=>?_⟩
   have h:s.err=9∨(0:Int)=1∨(0:Int)=2∨(0:Int)=3∨(0:Int)=6∨(0:Int)=7:=h
   omega
  ·rw [g];exact ⟨rfl,fun _=>z⟩
 | mark i q1 q2 q3 q4 =>
  have er0:=her (by omega)
  have eS:gS a M ns ys s []=stO a M 0 [] ys s:=by unfold gS;rw [if_neg (by omega),if_neg (by omega),if_neg (by omega),if_pos q1]
  rw [eS]
  have hl:bt s<64:=by
   have:=lv_top hM q3
   have hlf:s.leaf.toNat=i:=by rw [q2,Int.toNat_natCast]
   unfold bt;rw [hlf];split <;> omega
  rcases mark_mv (a:=a) (M:=M) (ys:=ys) hkd q1 with ⟨x,g1,g2,g3⟩ | ⟨x,g1,g2,g3⟩ | ⟨x,g⟩ | g | g | g
  ·rw [g2]
   refine ⟨rfl,fun h=>?_⟩
   have h:s.err=9∨(5:Int)=1∨(5:Int)=2∨(5:Int)=3∨(5:Int)=6∨(5:Int)=7:=h
   omega
  ·rw [g3]
   refine ⟨rfl,fun h=>?_⟩
   have h:s.err=9∨(4:Int)=1∨(4:Int)=2∨(4:Int)=3∨(4:Int)=6∨(4:Int)=7:=h
   omega
  ·rw [g]
   refine ⟨rfl,fun h=>?_⟩
   have h:s.err=9∨(0:Int)=1∨(0:Int)=2∨(0:Int)=3∨(0:Int)=6∨(0:Int)=7:=h
   omega
  ·exact absurd hwd g
  ·exact absurd (gt_lt hY.fit _) g
  ·exact absurd hl g
 | first sn q1 q2 q3 q4 =>
  have z:=h0 (by omega)
  have eS:gS a M ns ys s sn=swF (lv M) (gt ys s.at_.toNat) s:=by unfold gS;rw [if_neg (by omega),if_neg (by omega),if_neg (by omega),if_neg (by omega),if_pos q1]
  rw [eS]
  unfold swF
  split
  ·exact ⟨rfl,fun _=>z⟩
  ·split <;> exact ⟨rfl,fun _=>z⟩
 | again sn t q1 q2 q3 q4 q5 =>
  have z:=h0 (by omega)
  have eS:gS a M ns ys s sn=swA (lv M) (gt ys s.at_.toNat) (gt sn s.at_.toNat) s:=by unfold gS;rw [if_neg (by omega),if_neg (by omega),if_neg (by omega),if_neg (by omega),if_neg (by omega),if_pos q1]
  rw [eS]
  unfold swA
  split
  ·split <;> exact ⟨rfl,fun _=>z⟩
  ·exact ⟨rfl,fun _=>z⟩
/-- What an effect tells, and when it comes late. -/
theorem g_eff (hM:M≤65536) (hG:GI M ns zs N s sn) (hY:YI M zs ys) :
  (gB M ys s sn=true→(s.phase=3∧∃ o,o<M∧hasB zs (o:Int)=false∧hasB (os (uf zs ys) M) (o:Int)=false∧(gS a M ns ys s sn).err=0∧(gS a M ns ys s sn).aad=((a+o)%4294967296:Nat)∧os (uf zs (gC M ys s)) M=ins (os (uf zs ys) M) (o:Int))∨(s.phase=7∧(gS a M ns ys s sn).err=9)) ∧
  (gB M ys s sn=false∨s.phase=7→os (uf zs (gC M ys s)) M=os (uf zs ys) M):=by
 have hph:=gp_phase hG
 by_cases h3:s.phase=3
 ·have er0:=hG.er (by omega)
  have eB:gB M ys s sn=decide (gt ys s.leaf.toNat=s.word):=by unfold gB;rw [if_pos h3]
  have eS:gS a M ns ys s sn=claimS a 0 [] (gt ys s.leaf.toNat) s:=by unfold gS;rw [if_neg (by omega),if_neg (by omega),if_pos h3]
  rw [eB]
  by_cases hx:gt ys s.leaf.toNat=s.word
  ·rw [decide_eq_true hx,eS]
   obtain ⟨o,c1,c2,c3,c4,c5⟩:=claim_eff (a:=a) hG h3 hx er0
   have ho:o/32<ys.length:=by rw [hY.len];unfold lv;omega
   refine ⟨fun _=>.inl ⟨h3,o,c1,c2,by rw [has_os c1 c2];exact c3,?_⟩,fun h=>by rcases h with h | h;cases h;omega⟩
   rw [c5]
   rcases claim_mv (a:=a) hG.kd (gt ys s.leaf.toNat) with ⟨g0,g | g⟩ | ⟨g0,_,_⟩
   ·rw [g];exact ⟨er0,c4,os_claim ho c1 c2⟩
   ·rw [g];exact ⟨er0,c4,os_claim ho c1 c2⟩
   ·exact absurd hx g0
  ·rw [decide_eq_false hx]
   have eC:gC M ys s=ys:=by unfold gC;rw [if_pos h3];unfold claimC;rw [if_neg hx]
   rw [eC]
   exact ⟨fun h=>(by cases h),fun _=>rfl⟩
 ·by_cases h7:s.phase=7
  ·have eB:gB M ys s sn=swAB (lv M) (gt ys s.at_.toNat) (gt sn s.at_.toNat) s:=by unfold gB;rw [if_neg h3,if_pos h7]
   have eS:gS a M ns ys s sn=swA (lv M) (gt ys s.at_.toNat) (gt sn s.at_.toNat) s:=by unfold gS;rw [if_neg (by omega),if_neg (by omega),if_neg (by omega),if_neg (by omega),if_neg (by omega),if_pos h7]
   rw [eB,eS,gC_same (by omega)]
   refine ⟨fun hb=>.inr ⟨h7,?_⟩,fun _=>rfl⟩
   unfold swAB at hb
   rw [Bool.and_eq_true] at hb
   unfold swA
   rw [if_pos (of_decide_eq_true hb.1),if_neg (of_decide_eq_true hb.2)];rfl
  ·have eB:gB M ys s sn=false:=by unfold gB;rw [if_neg h3,if_neg h7]
   rw [eB]
   refine ⟨fun h=>(by cases h),fun _=>?_⟩
   by_cases h45:s.phase=4∨s.phase=5
   ·exact os_leaves fun i hi=>gC_leaf hM hG h45 hi
   ·rw [gC_same (by omega)]
theorem po_gr (hM:M≤65536) (hM0:0<M) (hns:1≤ns) (hfit:a+M≤4294967296) (hk:k=1) (hG:GI M ns zs N s sn) (hu:s.used=false) (h0:s.err=9∨s.phase=1∨s.phase=2∨s.phase=3∨s.phase=6∨s.phase=7→s.aad=0) (hY:YI M zs ys) :
  PO a M ns tr zs k X rq N item s (gr rq sn) ys (gS a M ns ys s sn) (gr rq (gN M ys s sn)) (gC M ys s) (gB M ys s sn):=by
 obtain ⟨i1,i2⟩:=gi_step (a:=a) hM hM0 hns hG hY
 obtain ⟨u1,u2⟩:=gs_keep (a:=a) hM hM0 hns hG hY h0
 obtain ⟨f1,f2⟩:=g_eff (a:=a) hM hG hY
 have hkd':=i1.kd
 refine ⟨.gr _ _ hk i1 (u1.trans hu) u2,i2,fun hb hl=>?_,fun hb=>?_,fun ys0 left hp hA=>?_⟩
 ·rcases f1 hb with ⟨p3,o,c1,c2,c3,c4,c5,c6⟩ | ⟨p7,e9⟩
  ·have e1:oneK k rq item=1:=by unfold oneK;rw [if_neg (by omega),hk]
   have e3:tld (gS a M ns ys s sn) (gr rq (gN M ys s sn))=okA ((a+o:Nat):Int):=by
    unfold tld anS
    rw [if_neg (by rintro ⟨h,_⟩;omega),c4,c5,u1,hu,Nat.mod_eq_of_lt (by omega)];rfl
   rw [e1,e3,c6]
   exact leg_1ok c1 c2 c3
  ·unfold late at hl
   rw [decide_eq_true p7,e9] at hl
   cases hl
 ·refine f2 ?_
  cases hb':gB M ys s sn with
  | false=>exact .inl rfl
  | true =>
   rw [hb',Bool.true_and] at hb
   unfold late at hb
   by_cases h7:s.phase=7
   ·exact .inr h7
   ·rw [decide_eq_false h7] at hb;cases hb
 ·generalize hl2:gr rq sn=l2 at hA
  cases hA with
  | ex _ hk1=>clear f1 f2 u1 u2;omega
  | ba _ _ _ hk1=>clear f1 f2 u1 u2;omega
  | sn _ _ hk1=>clear f1 f2 u1 u2;omega
  | gr sn2 eff _ hGA =>
   have hs:sn2=sn:=mapNat_inj (by unfold gr at hl2;injection hl2 with _ _ _ h;exact h.symm)
   subst hs
   obtain ⟨m1,m2⟩:=ga_step hM hM0 hns hG hY hGA hp
   exact ⟨m1,.gr _ _ _ hk m2⟩
/-- How an operation begins. -/
theorem gx_start {hd:Int} {left:Nat} (hns:1≤ns) (h0:0≤hd) (h1:hd<(ns:Int)) (hk:k=1) :
  PI a M ns tr zs k X rq N item ⟨1,(X:Int),0,0,false,1,hd,0,0,0,0,false,0,0,0,0⟩ (gr rq []) ∧
  (ns*(3+tv M)+2*lv M+5≤left→PA a M ns zs k X rq ys ys left ⟨1,(X:Int),0,0,false,1,hd,0,0,0,0,false,0,0,0,0⟩ (gr rq [])) :=
 ⟨.gr _ _ hk ⟨rfl,fun _=>rfl,⟨h0,h1⟩,⟨Int.le_refl _,by show (0:Int)≤_;omega⟩,rfl,⟨Int.le_refl _,by show (0:Int)<_;omega⟩,by show 0<_;omega,.seek 0 0 rfl rfl rfl (by omega) (Nat.zero_le _)⟩ rfl (fun _=>rfl),
  fun hl=>.gr _ _ 0 hk (.inl ⟨rfl,rfl,.inl ⟨0,0,rfl,rfl,rfl,by omega,Nat.zero_le _,by rw [Nat.sub_zero];omega⟩⟩)⟩
theorem ex_start {left:Nat} (hk:k=2∨k=5) (hX:X=a+o) (ho:o<M) (hh:hasB zs (o:Int)=false) (hl:6≤left) :
  PI a M ns tr zs k X rq N item (eS0 k (X:Int) o) ⟨rq,[],[],[]⟩∧PA a M ns zs k X rq ys ys left (eS0 k (X:Int) o) ⟨rq,[],[],[]⟩:=by
 refine ⟨.ex _ o hk rfl (ei_start hk ho hh) hX (fun _=>rfl) (fun _=>rfl),.ex _ o hk hX (by rw [mux_8 rfl];exact hl) (fun _=>?_) (fun _=>⟨fun h=>(by cases h),rfl⟩)⟩
 cases hu:usd o ys with
 | false=>exact .inl ⟨hu,hu,.inl rfl,rfl⟩
 | true=>exact .inr (.inr ⟨hu,hu,.inl rfl,rfl⟩)
theorem nm_ok (hk:k=3∨k=4) (he:askE a M zs k (X:Int) rq=0) (hw:∀ y∈rq,0≤y):NmOk a M zs (nmI k (X:Int) rq)∧0<(nmI k (X:Int) rq).length:=by
 obtain ⟨_,_,h4,hc⟩:=askE_ok he
 have hall:=(chk_ok hc).1
 have hpos:∀ y∈nmI k (X:Int) rq,0≤y:=fun y hy=>by
  rcases hk with rfl | rfl
  ·rw [nmI_one (.inr (.inl rfl)),List.mem_singleton] at hy;omega
  ·rw [nmI_all] at hy;exact hw y hy
 refine ⟨fun i hi=>?_,?_⟩
 ·have hm:gi (nmI k (X:Int) rq) i∈nmI k (X:Int) rq:=gi_mem hi
  have hf:=(hall _ hm).1
  have h0:=hpos _ hm
  obtain ⟨o,h1,h2,h3⟩:=fi_in hf
  exact ⟨o,h2,by omega,h3⟩
 ·rcases hk with rfl | rfl
  ·rw [nmI_one (.inr (.inl rfl))];simp
  ·rw [nmI_all];have:=h4 rfl;omega
theorem ba_start {left:Nat} (hk:k=3∨k=4) (hok:NmOk a M zs (nmI k (X:Int) rq)) (hn:0<(nmI k (X:Int) rq).length) (hl:6*(nmI k (X:Int) rq).length≤left) :
  PI a M ns tr zs k X rq N 0 (bS0 k (X:Int) (bof a (nmI k (X:Int) rq) 0)) ⟨rq,[],[],[]⟩∧PA a M ns zs k X rq ys ys left (bS0 k (X:Int) (bof a (nmI k (X:Int) rq) 0)) ⟨rq,[],[],[]⟩:=by
 have hB:BI a M zs rq (nmI k (X:Int) rq) 0 (bS0 k (X:Int) (bof a (nmI k (X:Int) rq) 0)) []:=bi_start (by
  rcases hk with rfl | rfl
  ·exact .inl ⟨rfl,by rw [nmI_one (.inr (.inl rfl))];rfl⟩
  ·exact .inr ⟨rfl,nmI_all⟩) hn hok
 have hd:bdc 0 (bS0 k (X:Int) (bof a (nmI k (X:Int) rq) 0))=0:=by unfold bdc;rw [if_pos (.inl rfl)]
 refine ⟨.ba _ _ _ 0 hk rfl hB rfl hd.symm,.ba _ (nmI k (X:Int) rq) _ 0 hk rfl rfl (fun h=>by cases h) ?_ (by rw [hd];rfl) (fun _=>by rw [hd];rfl) (fun _ h=>by omega)⟩
 unfold bmu
 rw [bmw_8 rfl]
 omega
theorem sn_start {left:Nat} (hM0:0<M) (htr:1≤tr) (hk:k=6) (hl:2*lv M≤left) :
  PI a M ns tr zs k X rq N item ⟨6,(X:Int),0,0,false,6,0,0,0,0,0,false,0,0,0,0⟩ ⟨rq,[],[],[]⟩∧PA a M ns zs k X rq ys ys left ⟨6,(X:Int),0,0,false,6,0,0,0,0,0,false,0,0,0,0⟩ ⟨rq,[],[],[]⟩:=by
 have hL:0<lv M:=by unfold lv;omega
 refine ⟨.sn _ [] [] hk ⟨rfl,⟨Int.le_refl _,by show (0:Int)≤_;omega,fun _=>by show (0:Int)<_;omega⟩,(fun x h=>by cases h),rfl,rfl,Nat.zero_le _,.first [] rfl rfl (by simpa using hL) rfl⟩,.sn _ [] [] hk ?_ ⟨(fun j hj=>absurd hj (by simp)),fun h=>by cases h⟩ rfl⟩
 unfold nmu
 rw [if_pos rfl]
 show 2*lv M - (0:Int).toNat≤_
 omega
/-- How it ends, alone. -/
theorem pa_end {left:Nat} (hfit:a+M≤4294967296) (hY0:YI M zs ys0) (he:askE a M zs k (X:Int) rq=0) (hI:PI a M ns tr zs k X rq N item s l) (hA:PA a M ns zs k X rq ys0 ys left s l) (hp:s.phase=0) :
  legS a M zs (os (uf zs ys0) M) k X rq (anS s l)=(os (uf zs ys) M,true)∧s.err≠11:=by
 cases hI with
 | gr sn hk hG hu h0 =>
  generalize hl2:gr rq sn=l2 at hA
  cases hA with
  | ex _ hk1=>omega
  | ba _ _ _ hk1=>omega
  | sn _ _ hk1=>omega
  | gr sn2 eff _ hGA =>
   subst hk
   have e2:anS s (gr rq sn2)=(s.err,s.aad,s.used,[],[]):=rfl
   rcases (ga_done hGA hp).2.sets hY0 with ⟨g1,_,o,g3,g4,g5,g6,g7⟩ | ⟨g1,g2,g3⟩
   ·rw [e2,g1,g6,hu,g7,Nat.mod_eq_of_lt (by omega)]
    exact ⟨leg_1ok g3 g4 g5,by omega⟩
   ·rw [e2,g1,h0 (.inl g1),hu,g3]
    exact ⟨leg_1full g2,by omega⟩
 | ex o hk hk2 hE hX h0 hu =>
  generalize hl2:(⟨rq,[],[],[]⟩:Ls)=l2 at hA
  cases hA with
  | gr _ _ hk1=>omega
  | ba _ _ _ hk1=>omega
  | sn _ _ hk1=>omega
  | ex o2 _ hX2 h1 h2 h5 =>
   have:o2=o:=Nat.add_left_cancel (hX2.symm.trans hX)
   subst this
   have e2:anS s ⟨rq,[],[],[]⟩=(s.err,s.aad,s.used,[],[]):=rfl
   rw [e2,hX]
   rcases hk with rfl | rfl
   ·have hus:=has_os (zs:=zs) (ys:=ys0) hE.oM hE.hh
    rcases h2 rfl with ⟨c1,c2,c3,c4⟩ | ⟨c1,c2,c3,c4⟩ | ⟨c1,c2,c3,c4⟩
    ·omega
    ·have hA2:s.aad=((a+o2:Nat):Int):=by
      have e0:=c3.2
      rcases hE.ph with ⟨h,_⟩ | ⟨h,_⟩ | ⟨h,_⟩ | ⟨_,h | h | h⟩
      ·omega
      ·omega
      ·omega
      ·omega
      ·omega
      ·exact h.2.2
     rw [c3.2,hA2,hu rfl,c4]
     exact ⟨leg_2free hE.oM hE.hh (hus.trans c1),by omega⟩
    ·have e5:s.err=5:=by
      rcases c3 with h | h | h
      ·omega
      ·omega
      ·exact h.2
     rw [e5,h0 (.inr (.inr (.inl e5))),hu rfl,c4]
     exact ⟨leg_2used hE.oM hE.hh (hus.trans c1),by omega⟩
   ·obtain ⟨q1,q2⟩:=h5 rfl
    have e0:s.err=0:=by
     rcases hE.ph with ⟨h,_⟩ | ⟨h,_⟩ | ⟨h,_⟩ | ⟨_,h | h | h⟩
     ·omega
     ·omega
     ·omega
     ·exact h.2
     ·omega
     ·omega
    rw [e0,h0 (.inr (.inr (.inr rfl))),q1 hp,q2]
    exact ⟨leg_5 hE.oM hE.hh,by omega⟩
 | ba nm es i hk hk2 hB hnm hi =>
  generalize hl2:(⟨rq,[],es,[]⟩:Ls)=l2 at hA
  cases hA with
  | gr _ _ hk1=>omega
  | ex _ hk1=>omega
  | sn _ _ hk1=>omega
  | ba nm2 es2 i2 _ hnm2 hit h9 hlf hS hE h3 =>
   injection hl2 with q1 q2 q3 q4
   subst q3
   have hnn:nm2=nm:=hnm2.trans hnm.symm
   subst hnn
   have hii:i2=i:=by have:=hB.it;omega
   subst hii
   have hd:bdc i2 s=nm2.length:=by
    unfold bdc
    rw [if_neg (by omega)]
    rcases hB.ph with ⟨h,_⟩ | ⟨h,_⟩ | ⟨h,_⟩ | ⟨_,_,h⟩ <;> omega
   rw [hd,List.take_length] at hS hE
   rcases hk with rfl | rfl
   ·have hn1:nm2=[(X:Int)]:=by rw [hnm,nmI_one (.inr (.inl rfl))]
    have hl1:nm2.length=1:=by rw [hn1];rfl
    obtain ⟨b1,b2,b3⟩:=hB.ok.at_ (i:=0) (by omega)
    have hXo:X=a+bof a nm2 0:=by
     have:gi nm2 0=(X:Int):=by rw [hn1];rfl
     omega
    have hes:es=[]:=by
     rcases hB.kd with ⟨_,_,h⟩ | ⟨h,_⟩
     ·exact h
     ·omega
    have e2:anS s ⟨rq,[],es,[]⟩=an0 (reE (os (uf zs ys0) M) ((bof a nm2 0:Nat):Int)):=by
     unfold anS
     rw [h3 rfl (by omega),hB.aa,hB.us,hes];rfl
    have e3:os (uf zs ys) M=del (os (uf zs ys0) M) ((bof a nm2 0:Nat):Int):=by
     have t1:nm2=[gi nm2 0]:=by rw [hn1];rfl
     rw [hS,t1]
     show del _ (ofO a M (gi nm2 0).toNat)=_
     rw [hB.ok.ofO (by omega),← t1]
    rw [e2,e3,hXo]
    have hr:=reE_rng (xs:=os (uf zs ys0) M) ((bof a nm2 0:Nat):Int)
    have he3:=h3 rfl (by omega)
    refine ⟨?_,by omega⟩
    rw [← hXo]
    rw [hXo]
    exact leg_3 b1 b3
   ·have hn1:nm2=rq:=by rw [hnm,nmI_all]
    have e0:=bi_err4 hB hk2
    have e2:anS s ⟨rq,[],es,[]⟩=(0,0,false,[],batE a M (os (uf zs ys0) M) rq):=by
     unfold anS
     rw [e0,hB.aa,hB.us,hE rfl,hn1]
    rw [e2,hS,hn1]
    exact ⟨leg_4 he,by omega⟩
 | sn sn ds hk hN =>
  generalize hl2:(⟨rq,ds,[],sn.map Int.ofNat⟩:Ls)=l2 at hA
  cases hA with
  | gr _ _ hk1=>omega
  | ex _ hk1=>omega
  | ba _ _ _ hk1=>omega
  | sn sn2 ds2 _ hl hNA hos =>
   injection hl2 with q1 q2 q3 q4
   subst q2
   obtain ⟨g1,g2⟩:=hNA.2 hp
   subst hk
   have e2:anS s ⟨rq,ds,[],sn2.map Int.ofNat⟩=(0,0,false,ads a (os (uf zs ys0) M),[]):=by
    unfold anS
    rw [g1,hN.aa,hN.us,g2,hos]
   rw [e2,hos]
   exact ⟨leg_6,by omega⟩
theorem pa_stop (hM:M≤65536) (hM0:0<M) (hns:1≤ns) (hfit:a+M≤4294967296) (hY:YI M zs ys) (hI:PI a M ns tr zs k X rq N item s l) (hA:PA a M ns zs k X rq ys0 ys 0 s l):s.phase=0:=by
 by_cases hp:s.phase=0
 ·exact hp
 ·exfalso
  have H:1≤0:=by
   cases hI with
   | gr sn hk hG hu h0=>exact ((po_gr (X:=X) (tr:=tr) (N:=N) (item:=item) hM hM0 hns hfit hk hG hu h0 hY).al ys0 0 hp hA).1
   | ex o hk hk2 hE hX h0 hu=>exact ((po_ex (ns:=ns) (tr:=tr) (N:=N) (item:=item) hM hfit hk hk2 hE hX h0 hu hY).al ys0 0 hp hA).1
   | ba nm es i hk hk2 hB hnm hi=>exact ((po_ba (ns:=ns) (tr:=tr) (N:=N) hM hk hk2 hB hnm hi hY).al ys0 0 hp hA).1
   | sn sn ds hk hN=>exact ((po_sn (ns:=ns) (X:=X) (N:=N) (item:=item) hM0 hk hN hY).al ys0 0 hp hA).1
  omega
end
end Go.Proofs.YtfhefofkhmkcnaaGreatDoor

/-
 What pool's functions answer,as propositions. No program in it.
-/
namespace Go.Proofs.YtfhefofkhmkcnaaGreatDoor
set_option maxRecDepth 100000
set_option maxRecDepth 100000
set_option maxRecDepth 100000
open Go.RowKit
set_option maxHeartbeats 8000000
set_option linter.unusedVariables false
/-- How many steps a request takes at most, alone. -/
def mostN (a M ns tr:Nat) (zs:List Int) (k:Int) (X:Nat) (rq:List Int):Nat :=
 if askE a M zs k (X:Int) rq≠0∨k=7 then 0 else if k=1 then ns*(tv M+3)+2*lv M+6 else if k=4 then 6*rq.length else if k=6 then 2*lv M*tr else 6
/-- How an operation begins: b: it has taken effect already. -/
def PBg (a M ns tr:Nat) (zs:List Int) (k:Int) (X:Nat) (rq:List Int) (s:Sc) (l:Ls) (b:Bool):Prop :=
 (b=true∧(askE a M zs k (X:Int) rq≠0∨k=7)∧(s.phase=0∧l.ses=[]∧s.kind=k)∧anS s l=an0 (askE a M zs k (X:Int) rq)) ∨
 (b=false∧askE a M zs k (X:Int) rq=0∧k≠7∧PI a M ns tr zs k X rq 0 0 s l∧(k=1→s.phase=1)∧∀ ys,PA a M ns zs k X rq ys ys (mostN a M ns tr zs k X rq) s l)
def RetPB (a M ns tr:Nat) (zs:List Int) (k:Int) (X:Nat) (rq:List Int) (w:World) (e:Ending) (w':World):Prop :=
 ∃ h' s l b,e=.returned (.tuple #[.agg (opv h' s),.bool b])∧Lists w.heap.size w' h' l∧l.rqs=rq∧PBg a M ns tr zs k X rq s l b∧Below w.heap.size w w'
def RetPS (a M ns tr:Nat) (zs:List Int) (k:Int) (X:Nat) (rq:List Int) (N item:Nat) (s:Sc) (l:Ls) (m:Nat) (ys:List Nat) (B0:Option Addr) (w:World) (e:Ending) (w':World):Prop :=
 ∃ h' B d s' l' ys' b,e=.returned (.tuple #[.slice B m d,.agg (opv h' s'),.bool b])∧US w' B m d ys'∧Lists w.heap.size w' h' l'∧(∀ k,k<w.heap.size→Apart k B0→Apart k B)∧Below w.heap.size w w'∧PO a M ns tr zs k X rq N item s l ys s' l' ys' b
/-- An answer in new memory. -/
def RetAn (x:An) (w:World) (e:Ending) (w':World):Prop :=
 ∃ P p1 p2 Q q1 q2,e=.returned (.agg #[.int .i64 x.1,.int .u32 x.2.1,.bool x.2.2.1,.slice P p1 p2,.slice Q q1 q2])∧IS .u32 w.heap.size w' P p1 p2 x.2.2.2.1∧IS .i64 w.heap.size w' Q q1 q2 x.2.2.2.2∧Below w.heap.size w w'
/-- What pool's functions answer: all that the laws ask of them. -/
structure PoolSays:Prop where
 beg:∀ {w:World} {lo2 lz a M ns tr X n0 c0:Nat} {p wo qu k hd:Int} {A A0:Option Addr} {n c:Nat} {zs rq:List Int} (hW:Laid w) (ha:a<4294967296) (hM:Much a p M) (h1:1≤ns) (htr:1≤tr) (hZ:IS .i64 lz w A n c zs) (hn:n≤60000) (hd0:0≤hd) (hd1:hd<(ns:Int)) (hX:X<4294967296) (hI:IS .u32 lo2 w A0 n0 c0 rq) (hn0:n0≤60000) (hw:W32 rq),
  Calls Tryz.prog 12 #[.agg #[.int .u32 (a:Int),.int .i64 p,.slice A n c,.int .i64 (ns:Int),.int .i64 wo,.int .i64 qu,.int .i64 (tr:Int)],.int .i64 hd,.agg #[.int .i64 k,.int .u32 (X:Int),.slice A0 n0 c0]] w (RetPB a M ns tr zs k X rq w)
 stp:∀ {w:World} {lo lz a m d M ns tr N item X:Nat} {p wo qu k:Int} {A B:Option Addr} {n c:Nat} {zs rq:List Int} {ys:List Nat} {h:Hd} {s:Sc} {l:Ls} (ha:a<4294967296) (hM:Much a p M) (h1:1≤ns) (h2:ns≤64) (htr:tr≤60000) (hN:N≤60000) (hZ:IS .i64 lz w A n c zs) (hn:n≤60000) (hr:risB M 0 zs=true) (hq:rq.length≤60000) (hI:PI a M ns tr zs k X rq N item s l) (hY:YI M zs ys) (hU:US w B m d ys) (hL:Lists lo w h l) (hp:s.phase≠0),
  Calls Tryz.prog 16 #[.agg #[.int .u32 (a:Int),.int .i64 p,.slice A n c,.int .i64 (ns:Int),.int .i64 wo,.int .i64 qu,.int .i64 (tr:Int)],.slice B m d,.agg (opv h s)] w (RetPS a M ns tr zs k X rq N item s l m ys B w)
 tol:∀ {w:World} {lo:Nat} {h:Hd} {s:Sc} {l:Ls} (hL:Lists lo w h l) (h0:h.n0≤60000) (h1:h.n1≤65536) (h2:h.n2≤60000) (h3:h.n3≤65000),
  Calls Tryz.prog 15 #[.agg (opv h s)] w (RetAn (tld s l) w)
 mst:∀ {w:World} {lo2 lz a M ns tr X n0 c0:Nat} {p wo qu k:Int} {A A0:Option Addr} {n c:Nat} {zs rq:List Int} (hW:Laid w) (ha:a<4294967296) (hM:Much a p M) (h2:ns≤64) (htr:tr≤8) (hZ:IS .i64 lz w A n c zs) (hn:n≤60000) (hX:X<4294967296) (hI:IS .u32 lo2 w A0 n0 c0 rq) (hn0:n0≤60000) (hw:W32 rq),
  Calls Tryz.prog 19 #[.agg #[.int .u32 (a:Int),.int .i64 p,.slice A n c,.int .i64 (ns:Int),.int .i64 wo,.int .i64 qu,.int .i64 (tr:Int)],.agg #[.int .i64 k,.int .u32 (X:Int),.slice A0 n0 c0]] w fun e w'=>e=.returned (.int .i64 ((mostN a M ns tr zs k X rq:Nat):Int))∧Below w.heap.size w w'
 don:∀ {w:World} {lo a m d ns tr:Nat} {p wo qu:Int} {A B:Option Addr} {n c:Nat} {ys:List Nat} {h:Hd} {s:Sc} {l:Ls} (hU:US w B m d ys) (hm:0<m) (hL:Lists lo w h l) (h0:h.n0≤60000) (h1:h.n1≤65536) (h2:h.n2≤60000) (h3:h.n3≤65000) (hp:s.phase=0) (hk:s.kind=3),
  Calls Tryz.prog 16 #[.agg #[.int .u32 (a:Int),.int .i64 p,.slice A n c,.int .i64 (ns:Int),.int .i64 wo,.int .i64 qu,.int .i64 (tr:Int)],.slice B m d,.agg (opv h s)] w (RetX s l m ys false B w)
/-- What the document's Legal answers of an answer that is right: the set then. -/
structure LegSays:Prop where
 leg:∀ {w:World} {lo lo2 lo3 lo4 lo5 a M m d q f X p1 p2 q1 q2:Nat} {p sh wo qu tr k:Int} {A B C P Q:Option Addr} {n c:Nat} {zs xs ys xs':List Int} {x:An} (ha:a<4294967296) (hM:Much a p M) (h0:IS .i64 lo w A n c zs) (hn:n≤65536) (hs0:IS .i64 lo2 w B m d xs) (hm:m≤60000) (hx:mayR M zs 0 xs=true) (hX:X<4294967296) (hy0:IS .u32 lo3 w C q f ys) (hq:q≤60000) (hw:W32 ys) (hA0:IS .u32 lo4 w P p1 p2 x.2.2.2.1) (hE0:IS .i64 lo5 w Q q1 q2 x.2.2.2.2) (b1:p1≤65536) (b2:q1≤60000) (hA1:0≤x.2.1∧x.2.1<4294967296) (hl:legS a M zs xs k X ys x=(xs',true)),
  Calls Tryz.prog 13 #[.agg #[.int .u32 (a:Int),.int .i64 p,.slice A n c,.int .i64 sh,.int .i64 wo,.int .i64 qu,.int .i64 tr],.slice B m d,.agg #[.int .i64 k,.int .u32 (X:Int),.slice C q f],.agg #[.int .i64 x.1,.int .u32 x.2.1,.bool x.2.2.1,.slice P p1 p2,.slice Q q1 q2]] w (RetLB B m (xs',true) w)
section
variable {a M ns tr N item:Nat} {zs rq:List Int} {ys:List Nat} {s:Sc} {l:Ls} {X:Nat} {k:Int}
/-- The lists of an operation where it may be are short, its numbers fit. -/
theorem PI.few (hM:M≤65536) (hfit:a+M≤4294967296) (hq:rq.length≤60000) (h:PI a M ns tr zs k X rq N item s l):l.rqs=rq∧l.ads.length≤65536∧l.ers.length≤60000∧l.ses.length≤2048∧(0≤s.aad∧s.aad<4294967296)∧s.kind=k:=by
 cases h with
 | gr sn hk h hu h0=>exact ⟨rfl,Nat.zero_le _,Nat.zero_le _,by have:=gp_few hM h;show (sn.map Int.ofNat).length≤_;simpa using this,h.aa,h.kd.trans hk.symm⟩
 | ex o hk hk2 h hX h0 hu =>
  refine ⟨rfl,Nat.zero_le _,Nat.zero_le _,Nat.zero_le _,?_,hk2⟩
  have ho:=h.oM
  rcases h.ph with ⟨p,_⟩ | ⟨p,_⟩ | ⟨_,_,_,_,_,e⟩ | ⟨_,⟨p,_⟩ | ⟨_,p⟩ | ⟨_,_,e⟩⟩
  ·rw [h0 (.inl p)];omega
  ·rw [h0 (.inr (.inl p))];omega
  ·rw [e];omega
  ·rw [h0 (.inr (.inr (.inr (by omega))))];omega
  ·rw [h0 (.inr (.inr (.inl p)))];omega
  ·rw [e];omega
 | ba nm es i hk hk2 h hnm hi =>
  refine ⟨rfl,Nat.zero_le _,?_,Nat.zero_le _,by rw [h.aa];exact ⟨Int.le_refl _,by omega⟩,hk2⟩
  show es.length≤_
  rcases h.kd with ⟨_,_,e⟩ | ⟨h4,e⟩
  ·rw [e];exact Nat.zero_le _
  ·have hil:=h.il
   rw [e] at hil
   rcases h.ph with ⟨_,q,_⟩ | ⟨_,q,_⟩ | ⟨_,q,_⟩ | ⟨_,q,_⟩
   ·have:=q h4;omega
   ·have:=q h4;omega
   ·have:=(q h4).1;omega
   ·have:=(q h4).1;omega
 | sn sn ds hk h =>
  refine ⟨rfl,by have:=h.dl;show ds.length≤_;omega,Nat.zero_le _,?_,by rw [h.aa];exact ⟨Int.le_refl _,by omega⟩,h.kd.trans hk.symm⟩
  show (sn.map Int.ofNat).length≤_
  rw [List.length_map]
  have:=lv_le hM
  cases h.ph with
  | first sn _ _ h2=>omega
  | again sn t _ _ _ h3=>omega
  | done=>simp
theorem tld_at {e:Int} (h:anS s l=an0 e):tld s l=an0 e:=by
 unfold tld
 rw [if_neg (fun q=>q.2 (congrArg (fun x:An=>x.2.2.2.2) h))]
 exact h
theorem leg_once {xs:List Int} (h:askE a M zs k (X:Int) rq≠0∨k=7):legS a M zs xs k X rq (an0 (askE a M zs k (X:Int) rq))=(xs,true):=by
 by_cases he:askE a M zs k (X:Int) rq=0
 ·rcases h with h | h
  ·exact absurd he h
  ·rw [he,h];exact leg_close
 ·exact leg_wrong he
/-- What an answer's lists are, and its address. -/
theorem tld_few (hM:M≤65536) (hfit:a+M≤4294967296) (hq:rq.length≤60000) (h:PI a M ns tr zs k X rq N item s l):(0≤(tld s l).2.1∧(tld s l).2.1<4294967296)∧(tld s l).2.2.2.2.length≤60000∧(tld s l).2.2.2.1.length≤65536:=by
 obtain ⟨h1,h2,h3,h4,h5,h6⟩:=h.few hM hfit hq
 unfold tld
 split
 ·exact ⟨⟨Int.le_refl _,by show (0:Int)<_;omega⟩,Nat.zero_le _,Nat.zero_le _⟩
 ·exact ⟨h5,h3,h2⟩
theorem most_few (h1:lv M≤8) (h2:tv M=1) (h3:ns≤64) (h4:tr≤8) (hq:rq.length≤100):mostN a M ns tr zs k X rq≤1000:=by
 have e1:ns*(tv M+3)≤64*4:=Nat.mul_le_mul h3 (by omega)
 have e2:2*lv M*tr≤16*8:=Nat.mul_le_mul (by omega) h4
 unfold mostN
 repeat' split
 all_goals omega
theorem most_up (h2:ns≤64) (h8:tr≤8):∀ n2 t2,ns≤n2→tr≤t2→mostN a M ns tr zs k X rq≤mostN a M n2 t2 zs k X rq:=fun n2 t2 h1 h3=>by
 have e1:ns*(tv M+3)≤n2*(tv M+3):=Nat.mul_le_mul_right _ h1
 have e2:2*lv M*tr≤2*lv M*t2:=Nat.mul_le_mul_left _ h3
 unfold mostN
 split
 ·exact Nat.zero_le _
 ·split
  ·omega
  ·split
   ·omega
   ·split <;> omega
theorem most_pos (hM:0<M) (ht:1≤tr) (he:askE a M zs k (X:Int) rq=0) (h7:k≠7):0<mostN a M ns tr zs k X rq:=by
 obtain ⟨_,_,h4,_⟩:=askE_ok he
 have hl:0<lv M:=by unfold lv;omega
 unfold mostN
 rw [if_neg (by rintro (h | h);exact h he;exact h7 h)]
 split
 ·omega
 ·split
  ·have:=h4 (by assumption);omega
  ·split
   ·exact Nat.mul_pos (Nat.mul_pos (by omega) hl) ht
   ·omega
theorem most_one {x:Nat}:mostN a M ns tr zs 3 x []≤6:=by
 unfold mostN
 rw [if_neg (c:=(3:Int)=1) (by omega),if_neg (c:=(3:Int)=4) (by omega),if_neg (c:=(3:Int)=6) (by omega)]
 split <;> omega
theorem most_in (he:askE a M zs 4 (X:Int) rq=0) (hw:W32 rq) {i:Nat} (hi:i<rq.length):mostN a M ns tr zs 3 (gi rq i).toNat []=6:=by
 have hc:=(askE_ok he).2.2.2
 rw [nmI_all] at hc
 have h0:=hw _ (gi_mem hi)
 have hf:=((chk_ok hc).1 _ (gi_mem hi)).1
 unfold mostN
 rw [if_neg,if_neg (by omega),if_neg (by omega),if_neg (by omega)]
 rintro (h | h)
 ·rw [askE_one (.inr (.inl rfl)),Int.toNat_natCast] at h;exact h hf
 ·omega
end
end Go.Proofs.YtfhefofkhmkcnaaGreatDoor

/-
 What the law's own function one answers of a right request;when an effect comes late. Conditions: a block that may be.
-/
namespace Go.Proofs.YtfhefofkhmkcnaaGreatDoor
set_option maxRecDepth 100000
set_option maxRecDepth 100000
set_option maxRecDepth 100000
open Go.RowKit
set_option maxHeartbeats 8000000
set_option linter.unusedVariables false
theorem late_ways (s s':Sc):((s.phase == 7)=false∧late s s'=false)∨((s.phase == 7)=true∧(s'.err != 11)=false∧late s s'=false)∨((s.phase == 7)=true∧(s'.err != 11)=true∧late s s'=true):=by
 unfold late
 by_cases h7:s.phase=7
 ·by_cases h11:s'.err=11
  ·exact .inr (.inl ⟨by simp [h7],by simp [h11],by simp [h11]⟩)
  ·exact .inr (.inr ⟨by simp [h7],by simp [h11],by simp [h7,h11]⟩)
 ·exact .inl ⟨by simp [h7],by simp [h7]⟩
section
variable {w w0:World} {lo lo2 a M X n0 c0 item:Nat} {p sh wo qu tr kd:Int} {A A0:Option Addr} {n c:Nat} {zs xs:List Int}
theorem rone_no (ha:a<4294967296) (hM:Much a p M) (h0:IS .i64 lo w A n c zs) (hn:n≤65536) (hs:IS .u32 lo2 w A0 n0 c0 xs) (hn0:n0≤60000) (hX:X<4294967296) (hw:W32 xs) (he:askE a M zs kd (X:Int) xs=0) (h4:kd≠4) :
  Calls Tryz.prog 17 #[.agg #[.int .u32 (a:Int),.int .i64 p,.slice A n c,.int .i64 sh,.int .i64 wo,.int .i64 qu,.int .i64 tr],.agg #[.int .i64 kd,.int .u32 (X:Int),.slice A0 n0 c0],.int .i64 (item:Nat)] w fun e w'=>e=.returned (.agg #[.int .i64 kd,.int .u32 (X:Int),.slice A0 n0 c0])∧Below w.heap.size w w':=by
 have e1:(kd == 4)=false:=by simp [h4]
 go_enter Tryz.func17,Tryz.ntmps17
 go_upto_region 1 with (fail)
 have L:=Loc.start w
 replace L:=(((L).alloc #[.int .u32 (a:Int),.int .i64 p,.slice A n c,.int .i64 sh,.int .i64 wo,.int .i64 qu,.int .i64 tr] 27).alloc #[.int .i64 kd,.int .u32 (X:Int),.slice A0 n0 c0] 30).alloc #[.int .i64 0,.int .u32 0,.slice none 0 0] 30
 try simp only [World.size_alloc] at L
 try dsimp only [nput] at L
 generalize (((w).alloc (.cells #[.int .u32 (a:Int),.int .i64 p,.slice A n c,.int .i64 sh,.int .i64 wo,.int .i64 qu,.int .i64 tr] 27)).alloc (.cells #[.int .i64 kd,.int .u32 (X:Int),.slice A0 n0 c0] 30)).alloc (.cells #[.int .i64 0,.int .u32 0,.slice none 0 0] 30)=w1 at L ⊢
 generalize w.heap.size+1+1=gR at L ⊢
 generalize w.heap.size+1=gQ at L ⊢
 generalize w.heap.size=gH at L ⊢
 have Q_0:=L.at_ 1 0 rfl (v:=.int .i64 kd) rfl
 have Q_z:=L.lt 1 rfl
 go_wp2_with (first | (refine wpList_load_row rfl 30 (.tmp 4) rfl gQ rfl _ _ (0,0) _ (L.bk_ 1 rfl) Tryz.underlying30 rfl ak_sz ?_) | (refine wpList_store_row rfl 30 (.tmp 6) (.tmp 33) rfl gR _ rfl rfl _ _ (L.bk_ 0 rfl) ak_sz rfl (by simp [Value.oneCell']) ?_))
 clear Q_0 Q_z
 generalize hal:World.setRow _ _ _=w2
 replace L:=L.rr0 hal
 clear hal
 refine bodyPost_ret (v:=.agg (#[.int .i64 kd,.int .u32 (X:Int),.slice A0 n0 c0])) ?_ rfl ?_
 ·exact results_cell_row (fn:=Tryz.f17) Tryz.results17 _ _ gR _ _ (0,0) _ rfl (L.bk_ 0 rfl) Tryz.underlying30 rfl ak_sz
 exact ⟨rfl,L.K⟩
theorem rone_out (ha:a<4294967296) (hM:Much a p M) (h0:IS .i64 lo w A n c zs) (hn:n≤65536) (hs:IS .u32 lo2 w A0 n0 c0 xs) (hn0:n0≤60000) (hX:X<4294967296) (hw:W32 xs) (he:askE a M zs kd (X:Int) xs=0) (h4:kd=4) (hi:¬ item<n0) :
  Calls Tryz.prog 17 #[.agg #[.int .u32 (a:Int),.int .i64 p,.slice A n c,.int .i64 sh,.int .i64 wo,.int .i64 qu,.int .i64 tr],.agg #[.int .i64 kd,.int .u32 (X:Int),.slice A0 n0 c0],.int .i64 (item:Nat)] w fun e w'=>e=.returned (.agg #[.int .i64 kd,.int .u32 (X:Int),.slice A0 n0 c0])∧Below w.heap.size w w':=by
 have TC:=fun w (h0:IS .i64 lo w A n c zs) (hs:IS .u32 lo2 w A0 n0 c0 xs)=>Lib.hid (by have R:=rcheck_any (w:=w) (sh:=sh) (wo:=wo) (qu:=qu) (tr:=tr) (k:=kd) hM h0 hn hs hn0 hX hw;rw [he] at R;exact R)
 subst h4
 clear he hX hw hn hn0
 have e2:decide ((item:Int)<(n0:Int))=false:=by simp;omega
 have e3:(0:Int)≤(item:Int):=by omega
 go_enter Tryz.func17,Tryz.ntmps17
 go_upto_region 1 with (fail)
 have L:=Loc.start w
 replace L:=(((L).alloc #[.int .u32 (a:Int),.int .i64 p,.slice A n c,.int .i64 sh,.int .i64 wo,.int .i64 qu,.int .i64 tr] 27).alloc #[.int .i64 4,.int .u32 (X:Int),.slice A0 n0 c0] 30).alloc #[.int .i64 0,.int .u32 0,.slice none 0 0] 30
 try simp only [World.size_alloc] at L
 try dsimp only [nput] at L
 generalize (((w).alloc (.cells #[.int .u32 (a:Int),.int .i64 p,.slice A n c,.int .i64 sh,.int .i64 wo,.int .i64 qu,.int .i64 tr] 27)).alloc (.cells #[.int .i64 4,.int .u32 (X:Int),.slice A0 n0 c0] 30)).alloc (.cells #[.int .i64 0,.int .u32 0,.slice none 0 0] 30)=w1 at L ⊢
 generalize w.heap.size+1+1=gR at L ⊢
 generalize w.heap.size+1=gQ at L ⊢
 generalize w.heap.size=gH at L ⊢
 have Q_0:=L.at_ 1 0 rfl (v:=.int .i64 4) rfl
 have Q_z:=L.lt 1 rfl
 go_wp2_with (first | (refine wpList_load_want (by rfl) 27 (.tmp 3) rfl gH rfl _ _ (0,0) _ (L.bk_ 2 rfl) Tryz.underlying27 rfl cf_sz ?_) | (refine wpList_load_want (by rfl) 30 (.tmp 4) rfl gQ rfl _ _ (0,0) _ (L.bk_ 1 rfl) Tryz.underlying30 rfl ak_sz ?_))
 refine ((TC _ (h0.below L.K) (hs.below L.K)).out).mono ?_
 rintro e w2 ⟨rfl,K'⟩
 clear Q_0 Q_z
 replace L:=L.over K'
 have Q_2:=L.at_ 1 2 rfl (v:=.slice A0 n0 c0) rfl
 have Q_z:=L.lt 1 rfl
 go_wp2_with (first | (refine wpList_load_row rfl 30 (.tmp 4) rfl gQ rfl _ _ (0,0) _ (L.bk_ 1 rfl) Tryz.underlying30 rfl ak_sz ?_) | (refine wpList_store_row rfl 30 (.tmp 6) (.tmp 33) rfl gR _ rfl rfl _ _ (L.bk_ 0 rfl) ak_sz rfl (by simp [Value.oneCell']) ?_))
 clear Q_2 Q_z
 generalize hal:World.setRow _ _ _=w3
 replace L:=L.rr0 hal
 clear hal
 refine bodyPost_ret (v:=.agg (#[.int .i64 4,.int .u32 (X:Int),.slice A0 n0 c0])) ?_ rfl ?_
 ·exact results_cell_row (fn:=Tryz.f17) Tryz.results17 _ _ gR _ _ (0,0) _ rfl (L.bk_ 0 rfl) Tryz.underlying30 rfl ak_sz
 exact ⟨rfl,L.K⟩
theorem rone_yes (ha:a<4294967296) (hM:Much a p M) (h0:IS .i64 lo w A n c zs) (hn:n≤65536) (hs:IS .u32 lo2 w A0 n0 c0 xs) (hn0:n0≤60000) (hX:X<4294967296) (hw:W32 xs) (he:askE a M zs kd (X:Int) xs=0) (h4:kd=4) (hi:item<n0) :
  Calls Tryz.prog 17 #[.agg #[.int .u32 (a:Int),.int .i64 p,.slice A n c,.int .i64 sh,.int .i64 wo,.int .i64 qu,.int .i64 tr],.agg #[.int .i64 kd,.int .u32 (X:Int),.slice A0 n0 c0],.int .i64 (item:Nat)] w fun e w'=>e=.returned (.agg #[.int .i64 3,.int .u32 (gi xs item),.slice none 0 0])∧Below w.heap.size w w':=by
 have TC:=fun w (h0:IS .i64 lo w A n c zs) (hs:IS .u32 lo2 w A0 n0 c0 xs)=>Lib.hid (by have R:=rcheck_any (w:=w) (sh:=sh) (wo:=wo) (qu:=qu) (tr:=tr) (k:=kd) hM h0 hn hs hn0 hX hw;rw [he] at R;exact R)
 subst h4
 clear he hX hw hn hn0
 obtain ⟨bb,oo,hA,hbb,hcc⟩:=hs.get hi
 have e2:decide ((item:Int)<(n0:Int))=true:=by simp;omega
 have e3:(0:Int)≤(item:Int):=by omega
 have e4:(item:Int)<(n0:Int):=by omega
 subst hA
 go_enter Tryz.func17,Tryz.ntmps17
 go_upto_region 1 with (fail)
 have L:=Loc.start w
 replace L:=(((L).alloc #[.int .u32 (a:Int),.int .i64 p,.slice A n c,.int .i64 sh,.int .i64 wo,.int .i64 qu,.int .i64 tr] 27).alloc #[.int .i64 4,.int .u32 (X:Int),.slice (some ⟨bb,oo,none⟩) n0 c0] 30).alloc #[.int .i64 0,.int .u32 0,.slice none 0 0] 30
 try simp only [World.size_alloc] at L
 try dsimp only [nput] at L
 generalize (((w).alloc (.cells #[.int .u32 (a:Int),.int .i64 p,.slice A n c,.int .i64 sh,.int .i64 wo,.int .i64 qu,.int .i64 tr] 27)).alloc (.cells #[.int .i64 4,.int .u32 (X:Int),.slice (some ⟨bb,oo,none⟩) n0 c0] 30)).alloc (.cells #[.int .i64 0,.int .u32 0,.slice none 0 0] 30)=w1 at L ⊢
 generalize w.heap.size+1+1=gR at L ⊢
 generalize w.heap.size+1=gQ at L ⊢
 generalize w.heap.size=gH at L ⊢
 have Q_0:=L.at_ 1 0 rfl (v:=.int .i64 4) rfl
 have Q_z:=L.lt 1 rfl
 go_wp2_with (first | (refine wpList_load_want (by rfl) 27 (.tmp 3) rfl gH rfl _ _ (0,0) _ (L.bk_ 2 rfl) Tryz.underlying27 rfl cf_sz ?_) | (refine wpList_load_want (by rfl) 30 (.tmp 4) rfl gQ rfl _ _ (0,0) _ (L.bk_ 1 rfl) Tryz.underlying30 rfl ak_sz ?_))
 refine ((TC _ (h0.below L.K) (hs.below L.K)).out).mono ?_
 rintro e w2 ⟨rfl,K'⟩
 clear Q_0 Q_z
 replace L:=L.over K'
 have Q_2:=L.at_ 1 2 rfl (v:=.slice (some ⟨bb,oo,none⟩) n0 c0) rfl
 have Q_z:=L.lt 1 rfl
 go_upto_region 2 with fail
 clear Q_2 Q_z
 have Q2:=L.at_ 1 2 rfl (v:=.slice (some ⟨bb,oo,none⟩) n0 c0) rfl
 have Q_z:=L.lt 1 rfl
 have X_:=(L.K.cell (p:=⟨bb,oo+item,none⟩) hbb).trans hcc
 go_wp2_with (refine wpList_store_row rfl 30 (.tmp 6) (.tmp 32) rfl gR _ rfl (show _=Value.agg #[.int .i64 3,.int .u32 (gi xs item),.slice none 0 0] from rfl) _ _ (L.bk_ 0 rfl) ak_sz rfl (by simp [Value.oneCell']) ?_)
 replace L:=L.row 0 rfl #[.int .i64 3,.int .u32 (gi xs item),.slice none 0 0]
 try dsimp only [nput] at L
 refine bodyPost_ret (v:=.agg #[.int .i64 3,.int .u32 (gi xs item),.slice none 0 0]) ?_ rfl ?_
 ·exact results_cell_row (fn:=Tryz.f17) Tryz.results17 _ _ gR _ _ (0,0) _ rfl (L.bk_ 0 rfl) Tryz.underlying30 rfl ak_sz
 exact ⟨rfl,L.K⟩
theorem rone_any (item:Nat) (ha:a<4294967296) (hM:Much a p M) (h0:IS .i64 lo w A n c zs) (hn:n≤65536) (hs:IS .u32 lo2 w A0 n0 c0 xs) (hn0:n0≤60000) (hX:X<4294967296) (hw:W32 xs) (he:askE a M zs kd (X:Int) xs=0) :
  ∃ A1 n1 c1,IS .u32 0 w A1 n1 c1 (oneL kd xs item)∧n1≤60000∧W32 (oneL kd xs item)∧oneX kd X xs item<4294967296∧∀ w1,Below w.heap.size w w1→Calls Tryz.prog 17 #[.agg #[.int .u32 (a:Int),.int .i64 p,.slice A n c,.int .i64 sh,.int .i64 wo,.int .i64 qu,.int .i64 tr],.agg #[.int .i64 kd,.int .u32 (X:Int),.slice A0 n0 c0],.int .i64 (item:Nat)] w1 fun e w'=>e=.returned (.agg #[.int .i64 (oneK kd xs item),.int .u32 ((oneX kd X xs item:Nat):Int),.slice A1 n1 c1])∧Below w1.heap.size w1 w':=by
 have hl:=hs.len
 by_cases h4:kd=4
 ·by_cases hi:item<n0
  ·have hc:kd=4∧item<xs.length:=⟨h4,by omega⟩
   have hg:=hw _ (gi_mem (by omega:item<xs.length))
   refine ⟨none,0,0,?_,Nat.zero_le _,?_,?_,fun w1 K=>?_⟩
   ·unfold oneL;rw [if_pos hc];exact IS.none_ _ _ _
   ·unfold oneL;rw [if_pos hc];intro y hy;cases hy
   ·unfold oneX;rw [if_pos hc];omega
   ·have R:=rone_yes (sh:=sh) (wo:=wo) (qu:=qu) (tr:=tr) ha hM (h0.below K) hn (hs.below K) hn0 hX hw he h4 hi
    unfold oneK oneX
    rw [if_pos hc,if_pos hc,Int.toNat_of_nonneg (by omega)];exact R
  ·have hc:¬ (kd=4∧item<xs.length):=fun h=>hi (by omega)
   refine ⟨A0,n0,c0,by unfold oneL;rw [if_neg hc];exact hs.lower (Nat.zero_le _),hn0,by unfold oneL;rw [if_neg hc];exact hw,by unfold oneX;rw [if_neg hc];exact hX,fun w1 K=>?_⟩
   unfold oneK oneX;rw [if_neg hc,if_neg hc]
   exact rone_out ha hM (h0.below K) hn (hs.below K) hn0 hX hw he h4 hi
 ·have hc:¬ (kd=4∧item<xs.length):=fun h=>h4 h.1
  refine ⟨A0,n0,c0,by unfold oneL;rw [if_neg hc];exact hs.lower (Nat.zero_le _),hn0,by unfold oneL;rw [if_neg hc];exact hw,by unfold oneX;rw [if_neg hc];exact hX,fun w1 K=>?_⟩
  unfold oneK oneX;rw [if_neg hc,if_neg hc]
  exact rone_no ha hM (h0.below K) hn (hs.below K) hn0 hX hw he h4
end
end Go.Proofs.YtfhefofkhmkcnaaGreatDoor
