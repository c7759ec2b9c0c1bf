/-
  What the functions that these laws call answer, and what follows of it; conditions: those that each theorem names. In this file: BlockAddr, BlockLists, BlockCalls, BlockRefs, BlockAwake.
-/
import Derived.Test.YtfhefofkhmkcnaaGreatDoorPl2
import Derived.Deep.RegionHeld3
import Derived.BigQuiet
import Derived.Deep.QuietTactic
/-
 What addr.May answers,and what the document's own Many and May of blocks answer,as numbers: the world grows,and nothing that was there is otherwise.
-/
namespace Go.Proofs.YtfhefofkhmkcnaaGreatDoor
set_option maxRecDepth 100000
set_option maxRecDepth 100000
open Go.RowKit
set_option maxHeartbeats 8000000
def mayB (a:Nat) (p:Int):Bool:=decide (16≤p∧p≤32∧a%2 ^ (32 - p.toNat)=0)
theorem mayB_rng {a:Nat} {p:Int} (h:mayB a p=true):16≤p∧p≤32:=by unfold mayB at h;simp at h;omega
theorem mayB_mod {a:Nat} {p:Int} (h:mayB a p=true):a%2 ^ (32 - p.toNat)=0:=by unfold mayB at h;simp at h;exact h.2.2
theorem wf_u32 {a:Int} (h:(Lit.int .u32 a).wf=true):∃ X:Nat,a=X∧X<4294967296:=by
 have h':0≤a∧a≤4294967295:=by simpa [Lit.wf,IntKind.min,IntKind.max,IntKind.bits,IntKind.signed] using h
 exact ⟨a.toNat,by omega,by omega⟩
theorem pow_cut {p:Int} (h1:16≤p) (h2:p≤32) (a:Nat):((a:Int)*2 ^ p.toNat%4294967296 == 0)=decide (a%2 ^ (32 - p.toNat)=0):=by
 obtain ⟨k,hk,hk2⟩:∃ k:Nat,p.toNat=k∧k≤32:=⟨p.toNat,rfl,by omega⟩
 rw [hk]
 have e:(4294967296:Nat)=2 ^ (32 - k)*2 ^ k:=by rw [← Nat.pow_add,Nat.sub_add_cancel hk2]
 have e2:((a:Int)*2 ^ k%4294967296)=((a%2 ^ (32 - k)*2 ^ k:Nat):Int):=by
  rw [← Nat.mul_mod_mul_right,← e]
  rw [Int.natCast_emod,Int.natCast_mul,Int.natCast_pow]
  rfl
 rw [e2,Bool.eq_iff_iff]
 have hp:0<2 ^ k:=Nat.two_pow_pos k
 simp only [beq_iff_eq,decide_eq_true_eq]
 constructor
 ·intro h
  have h':a%2 ^ (32 - k)*2 ^ k=0:=by exact_mod_cast h
  rcases Nat.mul_eq_zero.1 h' with g | g
  ·exact g
  ·omega
 ·intro h
  rw [h];simp
theorem amay_any (a:Nat) (_ha:a<4294967296) (p:Int) (w:World) :
  Calls Tryz.prog 56 #[.agg #[.int .u32 a,.int .i64 p]] w fun e w'=>e=.returned (.bool (mayB a p))∧Below w.heap.size w w':=by
 by_cases h1:16≤p
 ·by_cases h2:p≤32
  ·have E:mayB a p=decide (a%2 ^ (32 - p.toNat)=0):=by unfold mayB;simp [h1,h2]
   rw [E,← pow_cut h1 h2]
   clear E
   go_enter Tryz.func56,Tryz.ntmps56
   go_wp2
   go_ret
   exact ⟨rfl,below_alloc w _⟩
  ·have E:mayB a p=false:=by unfold mayB;simp;omega
   have e1:decide (p≤32)=false:=by simpa using h2
   rw [E]
   clear E h2
   go_enter Tryz.func56,Tryz.ntmps56
   go_wp2
   go_ret
   exact ⟨rfl,below_alloc w _⟩
 ·have E:mayB a p=false:=by unfold mayB;simp;omega
  have e1:decide (16≤p)=false:=by simpa using h1
  rw [E]
  clear E h1
  go_enter Tryz.func56,Tryz.ntmps56
  go_wp2
  go_ret
  exact ⟨rfl,below_alloc w _⟩
theorem rmanyp_any (p:Nat) (h1:16≤p) (h2:p≤32) (w:World) :
  Calls Tryz.prog 55 #[.int .i64 p] w fun e w'=>e=.returned (.int .i64 (2 ^ (32 - p):Nat))∧w'=w:=by
 go_enter Tryz.func55,Tryz.ntmps55
 go_wp2
 go_loop [3,4] (fun n i=>∃ j x:Nat,p≤j∧j≤32∧i=.int .i64 j∧n=.int .i64 x∧Hid (x*2 ^ (32 - j)=2 ^ (32 - p))∧x≤65536) (fun _ i=>32 - (intOf i).toNat)
 case atStart=>exact ⟨p,1,Nat.le_refl _,h2,rfl,rfl,by rw [Nat.one_mul];rfl,by omega⟩
 case round =>
  obtain ⟨j,x,hj1,hj2,rfl,rfl,HX,hx⟩:=hrel
  by_cases hlt:j<32
  ·have H2:Hid ((2*x)*2 ^ (32 - (j+1))=2 ^ (32 - p)):=by
    have:=HX.out
    rw [show 32 - j=32 - (j+1)+1 by omega,Nat.pow_succ] at this
    rw [Hid,← this,Nat.mul_comm 2 x,Nat.mul_assoc,Nat.mul_comm 2]
   have h3:2*x≤65536:=by
    have h4:=H2.out
    have h5:2 ^ (32 - p)≤2 ^ 16:=Nat.pow_le_pow_right (by omega) (by omega)
    have h6:1≤2 ^ (32 - (j+1)):=Nat.one_le_two_pow
    have h7:2*x*1≤2*x*2 ^ (32 - (j+1)):=Nat.mul_le_mul_left _ h6
    omega
   go_wp2
   go_round
   case rel=>exact ⟨j+1,2*x,by omega,by omega,by go_num,by go_num,H2,h3⟩
   case measure=>simp [intOf];omega
  ·obtain rfl:j=32:=by omega
   have hx':x=2 ^ (32 - p):=by
    have:=HX.out
    simpa using this
   go_wp2
   go_ret
   exact ⟨ret_int (by first | rfl | simp),rfl⟩
theorem ramay_any (a:Nat) (ha:a<4294967296) (p:Int) (w:World) :
  Calls Tryz.prog 54 #[.agg #[.int .u32 a,.int .i64 p]] w fun e w'=>e=.returned (.bool (mayB a p))∧Below w.heap.size w w':=by
 by_cases h1:16≤p
 ·by_cases h2:p≤32
  ·obtain ⟨P,rfl⟩:∃ P:Nat,p=P:=⟨p.toNat,by omega⟩
   obtain ⟨m,hm⟩:∃ m,m=2 ^ (32 - P):=⟨_,rfl⟩
   have hm0:0<m:=by rw [hm];exact Nat.two_pow_pos _
   have hm1:m≤65536:=by
    rw [hm]
    exact Nat.pow_le_pow_right (n:=2) (j:=16) (by omega) (by omega)
   have M:=fun w2=>Lib.hid (rmanyp_any P (by omega) (by omega) w2)
   have E:mayB a P=(((a%m:Nat):Int) == 0):=by
    unfold mayB
    rw [hm,Bool.eq_iff_iff]
    simp only [Int.toNat_natCast,decide_eq_true_eq,beq_iff_eq]
    constructor
    ·rintro ⟨_,_,h⟩;rw [h];rfl
    ·intro h;exact ⟨h1,h2,by exact_mod_cast h⟩
   rw [← hm] at M
   rw [E]
   clear E hm
   have t1:(a:Int).tmod (m:Int)=((a%m:Nat):Int):=by rw [Int.tmod_eq_emod_of_nonneg (by omega),Int.natCast_emod]
   have t2:(a:Int)%(m:Int)=((a%m:Nat):Int):=by rw [Int.natCast_emod]
   have lr:a%m<m:=Nat.mod_lt _ hm0
   generalize a%m=r at *
   have t3:((m:Int) == 0)=false:=by simp;omega
   have t4:¬ (m:Int)=0:=by omega
   have t5:IntKind.i64.wrap (r:Int)=(r:Int):=IntWalk.i64_in _ (by omega)
   go_enter Tryz.func54,Tryz.ntmps54
   go_wp2_with fail
   go_quiet ((go_at_call 55;refine Calls.quiet_of_same ((M _).out)))
   go_wp2
   go_ret
   exact ⟨rfl,below_drewN (below_alloc w _) _⟩
  ·have E:mayB a p=false:=by unfold mayB;simp;omega
   have e1:decide (p≤32)=false:=by simpa using h2
   rw [E]
   clear E h2
   go_enter Tryz.func54,Tryz.ntmps54
   go_wp2_with fail
   go_quiet (fail)
   go_wp2
   go_ret
   exact ⟨rfl,below_drewN (below_alloc w _) _⟩
 ·have E:mayB a p=false:=by unfold mayB;simp;omega
  have e1:decide (16≤p)=false:=by simpa using h1
  rw [E]
  clear E h1
  go_enter Tryz.func54,Tryz.ntmps54
  go_wp2_with fail
  go_quiet (fail)
  go_wp2
  go_ret
  exact ⟨rfl,below_drewN (below_alloc w _) _⟩
end Go.Proofs.YtfhefofkhmkcnaaGreatDoor

/-
 What slices.Contains of integers answers,and what rising,some and all of package block answer,as numbers and lists. Conditions: at most 65536 numbers.
-/
namespace Go.Proofs.YtfhefofkhmkcnaaGreatDoor
set_option maxRecDepth 100000
set_option maxRecDepth 100000
open Go.RowKit
set_option maxHeartbeats 8000000
theorem mem_gi {xs:List Int} {x:Int}:x∈xs↔∃ j,j<xs.length∧gi xs j=x:=by
 constructor
 ·intro h
  obtain ⟨j,hj,e⟩:=List.getElem_of_mem h
  exact ⟨j,hj,by rw [gi_at hj];exact e⟩
 ·rintro ⟨j,hj,rfl⟩
  exact gi_mem hj
def hasB (xs:List Int) (x:Int):Bool:=decide (x∈xs)
section
variable {w:World} {lo:Nat} {A:Option Addr} {n c:Nat} {xs:List Int}
theorem index_any (h:IS .i64 lo w A n c xs) (hn:n≤65536) (x:Int) :
  Calls Tryz.prog 89 #[.slice A n c,.int .i64 x] w fun e w'=>∃ r:Int,e=.returned (.int .i64 r)∧decide (0≤r)=hasB xs x∧w'=w:=by
 have hl:=h.len
 go_enter Tryz.func89,Tryz.ntmps89
 go_wp2
 go_loop [8] (fun i=>∃ k:Nat,k≤n∧i=.int .i64 k∧Hid (∀ j,j<k→gi xs j≠x)) (fun i=>n - (intOf i).toNat)
 case atStart=>exact ⟨0,Nat.zero_le _,rfl,fun j hj=>by omega⟩
 case round =>
  obtain ⟨k,hk,rfl,H⟩:=hrel
  by_cases hlt:k<n
  ·obtain ⟨b,o,rfl,_,hc⟩:=h.get hlt
   by_cases he:gi xs k=x
   ·have e1:(x == gi xs k)=true:=by simp [he]
    have hx:hasB xs x=true:=decide_eq_true (mem_gi.2 ⟨k,by omega,he⟩)
    clear he
    go_wp2
    go_ret
    exact ⟨_,rfl,by first | omega | (rw [hx];simp;omega) | (simp;omega),rfl⟩
   ·have e1:(x == gi xs k)=false:=by simp;exact fun g=>he g.symm
    have H2:Hid (∀ j,j<k+1→gi xs j≠x):=fun j hj=>by
     rcases Nat.lt_or_ge j k with g | g
     ·exact H.out j g
     ·obtain rfl:j=k:=by omega
      exact he
    clear he
    go_wp2
    go_round
    case rel=>exact ⟨k+1,by omega,by go_num,H2⟩
    case measure=>simp [intOf];omega
  ·have hx:hasB xs x=false:=decide_eq_false (fun g=>by
    obtain ⟨j,hj,e⟩:=mem_gi.1 g
    exact H.out j (by omega) e)
   go_wp2
   go_ret
   exact ⟨_,rfl,by first | omega | (rw [hx];rfl) | rfl,rfl⟩
theorem contains_any (h:IS .i64 lo w A n c xs) (hn:n≤65536) (x:Int) :
  Calls Tryz.prog 88 #[.slice A n c,.int .i64 x] w fun e w'=>e=.returned (.bool (hasB xs x))∧w'=w:=by
 have T:=Lib.hid (index_any h hn x)
 go_enter Tryz.func88,Tryz.ntmps88
 go_wp2_with fail
 refine (T.out).mono ?_
 rintro e w1 ⟨r,rfl,hr,rfl⟩
 clear T
 go_wp2
 go_ret
 exact ⟨rfl,rfl⟩
end
def someB (n m:Int):Bool:=decide (1≤n∧n≤m)
/-- Are the numbers from lo on and below m, each greater than the one ahead of it? -/
def risB (m:Int):Int→List Int→Bool
 | _,[]=>true
 | lo,x :: r=>if x<lo∨m≤x then false else risB m (x+1) r
theorem drop_gi {xs:List Int} {k:Nat} (h:k<xs.length):xs.drop k=gi xs k :: xs.drop (k+1):=by
 rw [gi_at h];exact List.drop_eq_getElem_cons h
section
variable {w:World} {lo:Nat} {A:Option Addr} {n c:Nat} {xs:List Int}
end
section
variable {w:World} {g n c:Nat} {bs:List Bool}
end
end Go.Proofs.YtfhefofkhmkcnaaGreatDoor

/-
 What package block answers of configurations and blocks that may be,as numbers and lists: the world grows,and nothing that was there is otherwise.
-/
namespace Go.Proofs.YtfhefofkhmkcnaaGreatDoor
set_option maxRecDepth 100000
set_option maxRecDepth 100000
open Go.RowKit
set_option maxHeartbeats 8000000
/-- How many addresses a block has: M. -/
structure Much (a:Nat) (p:Int) (M:Nat):Prop where
 may:mayB a p=true
 is:M=2 ^ (32 - p.toNat)
theorem Much.of {a:Nat} {p:Int} (h:mayB a p=true):Much a p (2 ^ (32 - p.toNat)):=⟨h,rfl⟩
theorem Much.pos {a:Nat} {p:Int} {M:Nat} (h:Much a p M):0<M:=by rw [h.is];exact Nat.two_pow_pos _
theorem Much.most {a:Nat} {p:Int} {M:Nat} (h:Much a p M):M≤65536:=by
 have:=mayB_rng h.may
 rw [h.is]
 exact Nat.pow_le_pow_right (n:=2) (j:=16) (by omega) (by omega)
theorem Much.fits {a:Nat} {p:Int} {M:Nat} (h:Much a p M) (ha:a<4294967296):a+M≤4294967296:=by
 have r:=mayB_rng h.may
 have e:(4294967296:Nat)=2 ^ (32 - p.toNat)*2 ^ p.toNat:=by rw [← Nat.pow_add,Nat.sub_add_cancel (by omega)]
 have m:=mayB_mod h.may
 rw [← h.is] at e m
 obtain ⟨q,hq⟩:=Nat.dvd_of_mod_eq_zero m
 rw [e] at ha ⊢
 rw [hq] at ha ⊢
 have:q<2 ^ p.toNat:=Nat.lt_of_mul_lt_mul_left ha
 rw [show M*q+M=M*(q+1) from (Nat.mul_succ M q).symm]
 exact Nat.mul_le_mul_left _ this
theorem ret_two {k k':IntKind} {x y u:Int} (h:x=y):Ending.returned (.tuple #[.int k x,.int k' u])=.returned (.tuple #[.int k y,.int k' u]):=by rw [h]
section
variable {w:World} {lo a M:Nat} {p sh wo qu tr:Int} {A:Option Addr} {n c:Nat} {xs:List Int}
theorem held_any (h:IS .i64 lo w A n c xs) (hn:n≤65536) (x:Int) :
  Calls Tryz.prog 87 #[.agg #[.int .u32 a,.int .i64 p,.slice A n c,.int .i64 sh,.int .i64 wo,.int .i64 qu,.int .i64 tr],.int .i64 x] w fun e w'=>e=.returned (.bool (hasB xs x))∧Below w.heap.size w w':=by
 have T:=fun w1 K=>Lib.hid (contains_any (w:=w1) (h.below K) hn x)
 go_enter Tryz.func87,Tryz.ntmps87
 go_wp2_with fail
 refine ((T _ (below_alloc w _)).out).mono ?_
 rintro e w1 ⟨rfl,rfl⟩
 go_wp2
 go_ret
 exact ⟨rfl,below_alloc w _⟩
theorem many_yes (ha:a<4294967296) (h:Much a p M) :
  Calls Tryz.prog 25 #[.agg #[.int .u32 a,.int .i64 p]] w fun e w'=>e=.returned (.int .i64 M)∧Below w.heap.size w w':=by
 have T:=fun w1=>Lib.hid (amay_any a ha p w1)
 rw [h.may] at T
 obtain ⟨h1,h2⟩:=mayB_rng h.may
 have hM:=Lib.hid h.is
 have hm:=h.most
 clear h
 obtain ⟨P,rfl⟩:∃ P:Nat,p=P:=⟨p.toNat,by omega⟩
 have K:=below_alloc w (.cells #[.int .u32 a,.int .i64 P] 24)
 have H:=Bk.new w #[.int .u32 a,.int .i64 P] 24
 go_enter Tryz.func25,Tryz.ntmps25
 go_wp2_with fail
 refine ((T _).out).mono ?_
 rintro e w1 ⟨rfl,K1⟩
 clear T
 replace H:=H.below K1
 replace K:=Below.then_ K K1
 clear K1
 have H_0:=H.at_ (v:=.int .u32 a) 0 rfl
 have H_1:=H.at_ (v:=.int .i64 P) 1 rfl
 have H_z:=H.lt
 have e1:wrap64 (2 ^ (32 - P))=(M:Int):=by
  have e:((2:Int) ^ (32 - P))=(M:Int):=by rw [hM.out,Int.natCast_pow];rfl
  rw [e]
  exact IntWalk.wrap64_in _ (by omega)
 go_wp2
 go_ret
 exact ⟨ret_int e1,K⟩
theorem address_any (o:Nat) (ho:o≤65536) :
  Calls Tryz.prog 159 #[.agg #[.int .u32 a,.int .i64 p],.int .i64 o] w fun e w'=>e=.returned (.int .u32 ((a+o)%4294967296:Nat))∧Below w.heap.size w w':=by
 go_enter Tryz.func159,Tryz.ntmps159
 go_wp2
 go_ret
 exact ⟨ret_int (by go_num),below_alloc w _⟩
theorem offset_low (x:Nat) (h:x<a) :
  Calls Tryz.prog 86 #[.agg #[.int .u32 a,.int .i64 p],.int .u32 x] w fun e w'=>e=.returned (.tuple #[.int .i64 0,.int .i64 3])∧Below w.heap.size w w':=by
 have K:=below_alloc w (.cells #[.int .u32 a,.int .i64 p] 24)
 have H:=Bk.new w #[.int .u32 a,.int .i64 p] 24
 have e1:decide ((x:Int)<(a:Int))=true:=by simp;omega
 go_enter Tryz.func86,Tryz.ntmps86
 go_wp2_with fail
 generalize w.alloc (.cells #[.int .u32 a,.int .i64 p] 24)=w1 at H K ⊢
 generalize w.heap.size=g at H ⊢
 refine wp_region_held_drew (S:=fun w'=>Below w1.heap.size w1 w') (by kernel_rfl) (Below.refl _ _).drew (fun hHeld=>?_)
 refine tz 0 6 rfl hHeld ?_
 refine tz 1 7 rfl hHeld ?_
 refine ty 2 8 ?_ rfl ?_ hHeld ?_
 rotate_left
 ·intro ww hSw
  try dsimp only at hSw
  have H_0:=(H.below hSw).at_ (v:=.int .u32 a) 0 rfl
  have H_1:=(H.below hSw).at_ (v:=.int .i64 p) 1 rfl
  go_simp
  try with_reducible rfl
  try omega
 refine tz 3 9 rfl hHeld ?_
 refine ty 4 10 (.bool true) rfl ?_ hHeld ?_
 ·intro ww hSw
  try dsimp only at hSw
  go_simp
  try with_reducible rfl
  try omega
 refine tn 5 11 rfl hHeld ?_
 refine tn 6 12 rfl hHeld ?_
 refine tn 7 13 rfl hHeld ?_
 refine tn 8 14 rfl hHeld ?_
 refine tn 9 15 rfl hHeld ?_
 refine tn 10 16 rfl hHeld ?_
 refine tn 11 17 rfl hHeld ?_
 refine tn 12 18 rfl hHeld ?_
 refine tz 13 19 rfl hHeld ?_
 refine wpAnyH_done (by kernel_rfl) ?_ _
 replace H:=H.below hHeld
 replace K:=Below.then_ K hHeld
 clear hHeld
 have H_0:=H.at_ (v:=.int .u32 a) 0 rfl
 have H_1:=H.at_ (v:=.int .i64 p) 1 rfl
 have H_z:=H.lt
 go_wp2
 go_ret2
 exact ⟨rfl,K⟩
theorem offset_high (x:Nat) (hx:x<4294967296) (ha:a<4294967296) (hM:Much a p M) (h:a+M≤x) :
  Calls Tryz.prog 86 #[.agg #[.int .u32 a,.int .i64 p],.int .u32 x] w fun e w'=>e=.returned (.tuple #[.int .i64 0,.int .i64 3])∧Below w.heap.size w w':=by
 have K:=below_alloc w (.cells #[.int .u32 a,.int .i64 p] 24)
 have H:=Bk.new w #[.int .u32 a,.int .i64 p] 24
 have e1:decide ((x:Int)<(a:Int))=false:=by simp;omega
 have hm:=hM.most
 have hp:=hM.pos
 obtain ⟨d,hd⟩:∃ d,x=a+d:=⟨x - a,by omega⟩
 subst hd
 have e2:decide ((M:Int)≤(d:Int))=true:=by simp;omega
 have e3:IntKind.u32.wrap ((a:Int)+(d:Int) - (a:Int))=(d:Int):=by rw [IntWalk.u32_in _ (by omega)];omega
 have e4:IntKind.u32.wrap (M:Int)=(M:Int):=IntWalk.u32_in _ (by omega)
 go_enter Tryz.func86,Tryz.ntmps86
 go_wp2_with fail
 generalize w.alloc (.cells #[.int .u32 a,.int .i64 p] 24)=w1 at H K ⊢
 generalize w.heap.size=g at H ⊢
 refine wp_region_held_drew (S:=fun w'=>Below w1.heap.size w1 w') (by kernel_rfl) (Below.refl _ _).drew (fun hHeld=>?_)
 refine tz 0 6 rfl hHeld ?_
 refine tz 1 7 rfl hHeld ?_
 refine ty 2 8 ?_ rfl ?_ hHeld ?_
 rotate_left
 ·intro ww hSw
  try dsimp only at hSw
  have H_0:=(H.below hSw).at_ (v:=.int .u32 a) 0 rfl
  have H_1:=(H.below hSw).at_ (v:=.int .i64 p) 1 rfl
  go_simp
  try with_reducible rfl
  try omega
 refine tz 3 9 rfl hHeld ?_
 refine ty 4 10 (.bool false) rfl ?_ hHeld ?_
 ·intro ww hSw
  try dsimp only at hSw
  go_simp
  try with_reducible rfl
  try omega
 refine tz 5 11 rfl hHeld ?_
 refine tz 6 12 rfl hHeld ?_
 refine ty 7 13 ?_ rfl ?_ hHeld ?_
 rotate_left
 ·intro ww hSw
  try dsimp only at hSw
  have H_0:=(H.below hSw).at_ (v:=.int .u32 a) 0 rfl
  have H_1:=(H.below hSw).at_ (v:=.int .i64 p) 1 rfl
  go_simp
  try with_reducible rfl
  try omega
 refine ty 8 14 (.int .u32 d) rfl ?_ hHeld ?_
 ·intro ww hSw
  try dsimp only at hSw
  go_simp
  try with_reducible rfl
  try omega
 refine ty 9 15 ?_ rfl ?_ hHeld ?_
 rotate_left
 ·intro ww hSw
  try dsimp only at hSw
  have H_0:=(H.below hSw).at_ (v:=.int .u32 a) 0 rfl
  have H_1:=(H.below hSw).at_ (v:=.int .i64 p) 1 rfl
  go_simp
  try with_reducible rfl
  try omega
 refine rd 10 16 rfl fun K0 hK=>?_
 go_simp
 refine (many_yes ha hM).mono ?_
 rintro e ww ⟨rfl,K'⟩
 refine hK.out _ _ (Below.then_ hHeld K') ?_
 clear hHeld K' hK K0
 intro hHeld
 try simp only [Act.put,sA,sZ,sS]
 refine ty 11 17 (.int .u32 M) rfl ?_ hHeld ?_
 ·intro ww hSw
  try dsimp only at hSw
  go_simp
  try with_reducible rfl
  try omega
 refine ty 12 18 (.bool true) rfl ?_ hHeld ?_
 ·intro ww hSw
  try dsimp only at hSw
  go_simp
  try with_reducible rfl
  try omega
 refine ty 13 19 (.bool true) rfl ?_ hHeld ?_
 ·intro ww hSw
  try dsimp only at hSw
  go_simp
  try with_reducible rfl
  try omega
 refine wpAnyH_done (by kernel_rfl) ?_ _
 replace H:=H.below hHeld
 replace K:=Below.then_ K hHeld
 clear hHeld
 have H_0:=H.at_ (v:=.int .u32 a) 0 rfl
 have H_1:=H.at_ (v:=.int .i64 p) 1 rfl
 have H_z:=H.lt
 go_wp2
 go_ret2
 exact ⟨rfl,K⟩
theorem offset_in (x:Nat) (hx:x<4294967296) (ha:a<4294967296) (hM:Much a p M) (h1:a≤x) (h2:x<a+M) :
  Calls Tryz.prog 86 #[.agg #[.int .u32 a,.int .i64 p],.int .u32 x] w fun e w'=>e=.returned (.tuple #[.int .i64 (x - a:Nat),.int .i64 0])∧Below w.heap.size w w':=by
 have K:=below_alloc w (.cells #[.int .u32 a,.int .i64 p] 24)
 have H:=Bk.new w #[.int .u32 a,.int .i64 p] 24
 have e1:decide ((x:Int)<(a:Int))=false:=by simp;omega
 have hm:=hM.most
 have hp:=hM.pos
 obtain ⟨d,hd⟩:∃ d,x=a+d:=⟨x - a,by omega⟩
 subst hd
 have e2:decide ((M:Int)≤(d:Int))=false:=by simp;omega
 have e3:IntKind.u32.wrap ((a:Int)+(d:Int) - (a:Int))=(d:Int):=by rw [IntWalk.u32_in _ (by omega)];omega
 have e4:IntKind.u32.wrap (M:Int)=(M:Int):=IntWalk.u32_in _ (by omega)
 go_enter Tryz.func86,Tryz.ntmps86
 go_wp2_with fail
 generalize w.alloc (.cells #[.int .u32 a,.int .i64 p] 24)=w1 at H K ⊢
 generalize w.heap.size=g at H ⊢
 refine wp_region_held_drew (S:=fun w'=>Below w1.heap.size w1 w') (by kernel_rfl) (Below.refl _ _).drew (fun hHeld=>?_)
 refine tz 0 6 rfl hHeld ?_
 refine tz 1 7 rfl hHeld ?_
 refine ty 2 8 ?_ rfl ?_ hHeld ?_
 rotate_left
 ·intro ww hSw
  try dsimp only at hSw
  have H_0:=(H.below hSw).at_ (v:=.int .u32 a) 0 rfl
  have H_1:=(H.below hSw).at_ (v:=.int .i64 p) 1 rfl
  go_simp
  try with_reducible rfl
  try omega
 refine tz 3 9 rfl hHeld ?_
 refine ty 4 10 (.bool false) rfl ?_ hHeld ?_
 ·intro ww hSw
  try dsimp only at hSw
  go_simp
  try with_reducible rfl
  try omega
 refine tz 5 11 rfl hHeld ?_
 refine tz 6 12 rfl hHeld ?_
 refine ty 7 13 ?_ rfl ?_ hHeld ?_
 rotate_left
 ·intro ww hSw
  try dsimp only at hSw
  have H_0:=(H.below hSw).at_ (v:=.int .u32 a) 0 rfl
  have H_1:=(H.below hSw).at_ (v:=.int .i64 p) 1 rfl
  go_simp
  try with_reducible rfl
  try omega
 refine ty 8 14 (.int .u32 d) rfl ?_ hHeld ?_
 ·intro ww hSw
  try dsimp only at hSw
  go_simp
  try with_reducible rfl
  try omega
 refine ty 9 15 ?_ rfl ?_ hHeld ?_
 rotate_left
 ·intro ww hSw
  try dsimp only at hSw
  have H_0:=(H.below hSw).at_ (v:=.int .u32 a) 0 rfl
  have H_1:=(H.below hSw).at_ (v:=.int .i64 p) 1 rfl
  go_simp
  try with_reducible rfl
  try omega
 refine rd 10 16 rfl fun K0 hK=>?_
 go_simp
 refine (many_yes ha hM).mono ?_
 rintro e ww ⟨rfl,K'⟩
 refine hK.out _ _ (Below.then_ hHeld K') ?_
 clear hHeld K' hK K0
 intro hHeld
 try simp only [Act.put,sA,sZ,sS]
 refine ty 11 17 (.int .u32 M) rfl ?_ hHeld ?_
 ·intro ww hSw
  try dsimp only at hSw
  go_simp
  try with_reducible rfl
  try omega
 refine ty 12 18 (.bool false) rfl ?_ hHeld ?_
 ·intro ww hSw
  try dsimp only at hSw
  go_simp
  try with_reducible rfl
  try omega
 refine ty 13 19 (.bool false) rfl ?_ hHeld ?_
 ·intro ww hSw
  try dsimp only at hSw
  go_simp
  try with_reducible rfl
  try omega
 refine wpAnyH_done (by kernel_rfl) ?_ _
 replace H:=H.below hHeld
 replace K:=Below.then_ K hHeld
 clear hHeld
 have H_0:=H.at_ (v:=.int .u32 a) 0 rfl
 have H_1:=H.at_ (v:=.int .i64 p) 1 rfl
 have H_z:=H.lt
 go_wp2
 go_ret2
 exact ⟨by rw [Nat.add_sub_cancel_left];exact ret_two (by omega),K⟩
/-- How many addresses a block has; of one that may not be: 0. -/
def manyI (a:Nat) (p:Int):Int:=if mayB a p then ((2 ^ (32 - p.toNat):Nat):Int) else 0
theorem Much.manyI {a:Nat} {p:Int} {M:Nat} (h:Much a p M):manyI a p=M:=by unfold Go.Proofs.YtfhefofkhmkcnaaGreatDoor.manyI;rw [if_pos h.may,h.is]
/-- May the configuration be? -/
def confL (a:Nat) (p:Int) (n:Nat) (xs:List Int) (sh wo qu tr:Int):List Bool:=[mayB a p,decide ((n:Int)≤64),risB (manyI a p) 0 xs,someB sh 64,someB wo 64,someB qu 64,someB tr 8]
def confB (a:Nat) (p:Int) (n:Nat) (xs:List Int) (sh wo qu tr:Int):Bool:=(confL a p n xs sh wo qu tr).all id
/-- The offset that is told, and the error. -/
def ofO (a M x:Nat):Int:=if a≤x∧x<a+M then ((x - a:Nat):Int) else 0
def ofE (a M x:Nat):Int:=if a≤x∧x<a+M then 0 else 3
theorem offset_any (x:Nat) (hx:x<4294967296) (ha:a<4294967296) (hM:Much a p M) :
  Calls Tryz.prog 86 #[.agg #[.int .u32 a,.int .i64 p],.int .u32 x] w fun e w'=>e=.returned (.tuple #[.int .i64 (ofO a M x),.int .i64 (ofE a M x)])∧Below w.heap.size w w':=by
 unfold ofO ofE
 by_cases h1:a≤x
 ·by_cases h2:x<a+M
  ·rw [if_pos ⟨h1,h2⟩,if_pos ⟨h1,h2⟩]
   exact offset_in x hx ha hM h1 h2
  ·rw [if_neg (fun h=>h2 h.2),if_neg (fun h=>h2 h.2)]
   exact offset_high x hx ha hM (by omega)
 ·rw [if_neg (fun h=>h1 h.1),if_neg (fun h=>h1 h.1)]
  exact offset_low x (by omega)
def fiO (a M x:Nat) (xs:List Int):Int:=if a≤x∧x<a+M∧hasB xs ((x - a:Nat):Int)=false then ((x - a:Nat):Int) else 0
def fiE (a M x:Nat) (xs:List Int):Int:=if a≤x∧x<a+M then (if hasB xs ((x - a:Nat):Int)=true then 4 else 0) else 3
theorem held_is {x:Int} {b:Bool} (h:IS .i64 lo w A n c xs) (hn:n≤65536) (hb:hasB xs x=b) :
  Calls Tryz.prog 87 #[.agg #[.int .u32 a,.int .i64 p,.slice A n c,.int .i64 sh,.int .i64 wo,.int .i64 qu,.int .i64 tr],.int .i64 x] w fun e w'=>e=.returned (.bool b)∧Below w.heap.size w w':=by
 subst hb;exact held_any h hn x
theorem find_out (x:Nat) (hx:x<4294967296) (ha:a<4294967296) (hM:Much a p M) (hh:¬ (a≤x∧x<a+M)) :
  Calls Tryz.prog 85 #[.agg #[.int .u32 a,.int .i64 p,.slice A n c,.int .i64 sh,.int .i64 wo,.int .i64 qu,.int .i64 tr],.int .u32 x] w fun e w'=>e=.returned (.tuple #[.int .i64 0,.int .i64 3])∧Below w.heap.size w w':=by
 have K:=below_alloc w (.cells #[.int .u32 a,.int .i64 p,.slice A n c,.int .i64 sh,.int .i64 wo,.int .i64 qu,.int .i64 tr] 27)
 have H:=Bk.new w #[.int .u32 a,.int .i64 p,.slice A n c,.int .i64 sh,.int .i64 wo,.int .i64 qu,.int .i64 tr] 27
 have T:Hid (∀ w2:World,Calls Tryz.prog 86 #[.agg #[.int .u32 a,.int .i64 p],.int .u32 x] w2 fun e w'=>e=.returned (.tuple #[.int .i64 0,.int .i64 3])∧Below w2.heap.size w2 w'):=by
  intro w2
  have:=offset_any (w:=w2) (p:=p) x hx ha hM
  unfold ofO ofE at this
  rwa [if_neg hh,if_neg hh] at this
 go_enter Tryz.func85,Tryz.ntmps85
 go_wp2_with fail
 generalize w.alloc (.cells #[.int .u32 a,.int .i64 p,.slice A n c,.int .i64 sh,.int .i64 wo,.int .i64 qu,.int .i64 tr] 27)=w1 at H K ⊢
 generalize w.heap.size=g at H ⊢
 refine (T.out _).mono ?_
 rintro e w2 ⟨rfl,K'⟩
 replace H:=H.below K'
 replace K:=Below.then_ K K'
 clear K'
 go_wp2
 go_ret2
 exact ⟨rfl,K⟩
theorem find_held (x:Nat) (hx:x<4294967296) (ha:a<4294967296) (hM:Much a p M) (h1:a≤x) (h2:x<a+M) (h:IS .i64 lo w A n c xs) (hn:n≤65536) (hh:hasB xs ((x - a:Nat):Int)=true) :
  Calls Tryz.prog 85 #[.agg #[.int .u32 a,.int .i64 p,.slice A n c,.int .i64 sh,.int .i64 wo,.int .i64 qu,.int .i64 tr],.int .u32 x] w fun e w'=>e=.returned (.tuple #[.int .i64 0,.int .i64 4])∧Below w.heap.size w w':=by
 have K:=below_alloc w (.cells #[.int .u32 a,.int .i64 p,.slice A n c,.int .i64 sh,.int .i64 wo,.int .i64 qu,.int .i64 tr] 27)
 have H:=Bk.new w #[.int .u32 a,.int .i64 p,.slice A n c,.int .i64 sh,.int .i64 wo,.int .i64 qu,.int .i64 tr] 27
 replace h:=h.below K
 go_enter Tryz.func85,Tryz.ntmps85
 go_wp2_with fail
 generalize w.alloc (.cells #[.int .u32 a,.int .i64 p,.slice A n c,.int .i64 sh,.int .i64 wo,.int .i64 qu,.int .i64 tr] 27)=w1 at H K h ⊢
 generalize w.heap.size=g at H ⊢
 refine (offset_in x hx ha hM h1 h2).mono ?_
 rintro e w2 ⟨rfl,K'⟩
 replace H:=H.below K'
 replace h:=h.below K'
 replace K:=Below.then_ K K'
 clear K'
 have H_0:=H.at_ (v:=.int .u32 a) 0 rfl
 have H_1:=H.at_ (v:=.int .i64 p) 1 rfl
 have H_2:=H.at_ (v:=.slice A n c) 2 rfl
 have H_3:=H.at_ (v:=.int .i64 sh) 3 rfl
 have H_4:=H.at_ (v:=.int .i64 wo) 4 rfl
 have H_5:=H.at_ (v:=.int .i64 qu) 5 rfl
 have H_6:=H.at_ (v:=.int .i64 tr) 6 rfl
 have H_z:=H.lt
 go_wp2_with fail
 refine (held_is h (by omega) hh).mono ?_
 rintro e w3 ⟨rfl,K'⟩
 clear H_0 H_1 H_2 H_3 H_4 H_5 H_6 H_z
 replace H:=H.below K'
 replace h:=h.below K'
 replace K:=Below.then_ K K'
 clear K'
 go_wp2
 go_ret2
 exact ⟨rfl,K⟩
theorem find_ok (x:Nat) (hx:x<4294967296) (ha:a<4294967296) (hM:Much a p M) (h1:a≤x) (h2:x<a+M) (h:IS .i64 lo w A n c xs) (hn:n≤65536) (hh:hasB xs ((x - a:Nat):Int)=false) :
  Calls Tryz.prog 85 #[.agg #[.int .u32 a,.int .i64 p,.slice A n c,.int .i64 sh,.int .i64 wo,.int .i64 qu,.int .i64 tr],.int .u32 x] w fun e w'=>e=.returned (.tuple #[.int .i64 (x - a:Nat),.int .i64 0])∧Below w.heap.size w w':=by
 have K:=below_alloc w (.cells #[.int .u32 a,.int .i64 p,.slice A n c,.int .i64 sh,.int .i64 wo,.int .i64 qu,.int .i64 tr] 27)
 have H:=Bk.new w #[.int .u32 a,.int .i64 p,.slice A n c,.int .i64 sh,.int .i64 wo,.int .i64 qu,.int .i64 tr] 27
 replace h:=h.below K
 go_enter Tryz.func85,Tryz.ntmps85
 go_wp2_with fail
 generalize w.alloc (.cells #[.int .u32 a,.int .i64 p,.slice A n c,.int .i64 sh,.int .i64 wo,.int .i64 qu,.int .i64 tr] 27)=w1 at H K h ⊢
 generalize w.heap.size=g at H ⊢
 refine (offset_in x hx ha hM h1 h2).mono ?_
 rintro e w2 ⟨rfl,K'⟩
 replace H:=H.below K'
 replace h:=h.below K'
 replace K:=Below.then_ K K'
 clear K'
 have H_0:=H.at_ (v:=.int .u32 a) 0 rfl
 have H_1:=H.at_ (v:=.int .i64 p) 1 rfl
 have H_2:=H.at_ (v:=.slice A n c) 2 rfl
 have H_3:=H.at_ (v:=.int .i64 sh) 3 rfl
 have H_4:=H.at_ (v:=.int .i64 wo) 4 rfl
 have H_5:=H.at_ (v:=.int .i64 qu) 5 rfl
 have H_6:=H.at_ (v:=.int .i64 tr) 6 rfl
 have H_z:=H.lt
 go_wp2_with fail
 refine (held_is h (by omega) hh).mono ?_
 rintro e w3 ⟨rfl,K'⟩
 clear H_0 H_1 H_2 H_3 H_4 H_5 H_6 H_z
 replace H:=H.below K'
 replace h:=h.below K'
 replace K:=Below.then_ K K'
 clear K'
 go_wp2
 go_ret2
 exact ⟨rfl,K⟩
theorem find_any (x:Nat) (hx:x<4294967296) (ha:a<4294967296) (hM:Much a p M) (h:IS .i64 lo w A n c xs) (hn:n≤65536) :
  Calls Tryz.prog 85 #[.agg #[.int .u32 a,.int .i64 p,.slice A n c,.int .i64 sh,.int .i64 wo,.int .i64 qu,.int .i64 tr],.int .u32 x] w fun e w'=>e=.returned (.tuple #[.int .i64 (fiO a M x xs),.int .i64 (fiE a M x xs)])∧Below w.heap.size w w':=by
 unfold fiO fiE
 by_cases h1:a≤x∧x<a+M
 ·cases hh:hasB xs ((x - a:Nat):Int) with
  | false=>simp only [h1,and_self,if_true];exact find_ok x hx ha hM h1.1 h1.2 h hn hh
  | true=>simp only [h1,and_self,if_true];exact find_held x hx ha hM h1.1 h1.2 h hn hh
 ·rw [if_neg (fun g=>h1 ⟨g.1,g.2.1⟩),if_neg h1]
  exact find_out x hx ha hM h1
end
end Go.Proofs.YtfhefofkhmkcnaaGreatDoor

/-
 What the document's own blocks answer (Many,Offset,Held,Find,May) of configurations and blocks that may be,as numbers and lists: the world grows,and nothing that was there is otherwise.
-/
namespace Go.Proofs.YtfhefofkhmkcnaaGreatDoor
set_option maxRecDepth 100000
set_option maxRecDepth 100000
open Go.RowKit
set_option maxHeartbeats 8000000
section
variable {w:World} {lo a M:Nat} {p sh wo qu tr:Int} {A:Option Addr} {n c:Nat} {xs:List Int}
theorem rmany_yes (h:Much a p M) :
  Calls Tryz.prog 24 #[.agg #[.int .u32 a,.int .i64 p]] w fun e w'=>e=.returned (.int .i64 M)∧Below w.heap.size w w':=by
 obtain ⟨h1,h2⟩:=mayB_rng h.may
 have hM:=h.is
 clear h
 obtain ⟨P,rfl⟩:∃ P:Nat,p=P:=⟨p.toNat,by omega⟩
 rw [Int.toNat_natCast] at hM
 have T:=fun w1=>Lib.hid (rmanyp_any P (by omega) (by omega) w1)
 rw [← hM] at T
 clear hM
 go_enter Tryz.func24,Tryz.ntmps24
 go_wp2_with fail
 refine ((T _).out).mono ?_
 rintro e w1 ⟨rfl,rfl⟩
 clear T
 go_wp2
 go_ret
 exact ⟨rfl,below_alloc w _⟩
theorem roffset_low (x:Nat) (h:x<a) :
  Calls Tryz.prog 41 #[.agg #[.int .u32 a,.int .i64 p],.int .u32 x] w fun e w'=>e=.returned (.tuple #[.int .i64 0,.int .i64 3])∧Below w.heap.size w w':=by
 have K:=below_alloc w (.cells #[.int .u32 a,.int .i64 p] 24)
 have H:=Bk.new w #[.int .u32 a,.int .i64 p] 24
 have e1:decide ((x:Int)<(a:Int))=true:=by simp;omega
 go_enter Tryz.func41,Tryz.ntmps41
 go_wp2_with fail
 generalize w.alloc (.cells #[.int .u32 a,.int .i64 p] 24)=w1 at H K ⊢
 generalize w.heap.size=g at H ⊢
 refine wp_region_held_drew (S:=fun w'=>Below w1.heap.size w1 w') (by kernel_rfl) (Below.refl _ _).drew (fun hHeld=>?_)
 refine tz 0 6 rfl hHeld ?_
 refine tz 1 7 rfl hHeld ?_
 refine ty 2 8 ?_ rfl ?_ hHeld ?_
 rotate_left
 ·intro ww hSw
  try dsimp only at hSw
  have H_0:=(H.below hSw).at_ (v:=.int .u32 a) 0 rfl
  have H_1:=(H.below hSw).at_ (v:=.int .i64 p) 1 rfl
  go_simp
  try with_reducible rfl
  try omega
 refine tz 3 9 rfl hHeld ?_
 refine ty 4 10 (.bool true) rfl ?_ hHeld ?_
 ·intro ww hSw
  try dsimp only at hSw
  go_simp
  try with_reducible rfl
  try omega
 refine tn 5 11 rfl hHeld ?_
 refine tn 6 12 rfl hHeld ?_
 refine tn 7 13 rfl hHeld ?_
 refine tn 8 14 rfl hHeld ?_
 refine tn 9 15 rfl hHeld ?_
 refine tn 10 16 rfl hHeld ?_
 refine tn 11 17 rfl hHeld ?_
 refine tn 12 18 rfl hHeld ?_
 refine tz 13 19 rfl hHeld ?_
 refine wpAnyH_done (by kernel_rfl) ?_ _
 replace H:=H.below hHeld
 replace K:=Below.then_ K hHeld
 clear hHeld
 have H_0:=H.at_ (v:=.int .u32 a) 0 rfl
 have H_1:=H.at_ (v:=.int .i64 p) 1 rfl
 have H_z:=H.lt
 go_wp2
 go_ret2
 exact ⟨rfl,K⟩
theorem roffset_high (x:Nat) (hx:x<4294967296) (hM:Much a p M) (h:a+M≤x) :
  Calls Tryz.prog 41 #[.agg #[.int .u32 a,.int .i64 p],.int .u32 x] w fun e w'=>e=.returned (.tuple #[.int .i64 0,.int .i64 3])∧Below w.heap.size w w':=by
 have K:=below_alloc w (.cells #[.int .u32 a,.int .i64 p] 24)
 have H:=Bk.new w #[.int .u32 a,.int .i64 p] 24
 have e1:decide ((x:Int)<(a:Int))=false:=by simp;omega
 obtain ⟨d,hd⟩:∃ d,x=a+d:=⟨x - a,by omega⟩
 subst hd
 have e2:decide ((M:Int)≤(d:Int))=true:=by simp;omega
 have e3:IntKind.u32.wrap ((a:Int)+(d:Int) - (a:Int))=(d:Int):=by rw [IntWalk.u32_in _ (by omega)];omega
 have e4:IntKind.i64.wrap (d:Int)=(d:Int):=IntWalk.i64_in _ (by omega)
 go_enter Tryz.func41,Tryz.ntmps41
 go_wp2_with fail
 generalize w.alloc (.cells #[.int .u32 a,.int .i64 p] 24)=w1 at H K ⊢
 generalize w.heap.size=g at H ⊢
 refine wp_region_held_drew (S:=fun w'=>Below w1.heap.size w1 w') (by kernel_rfl) (Below.refl _ _).drew (fun hHeld=>?_)
 refine tz 0 6 rfl hHeld ?_
 refine tz 1 7 rfl hHeld ?_
 refine ty 2 8 ?_ rfl ?_ hHeld ?_
 rotate_left
 ·intro ww hSw
  try dsimp only at hSw
  have H_0:=(H.below hSw).at_ (v:=.int .u32 a) 0 rfl
  have H_1:=(H.below hSw).at_ (v:=.int .i64 p) 1 rfl
  go_simp
  try with_reducible rfl
  try omega
 refine tz 3 9 rfl hHeld ?_
 refine ty 4 10 (.bool false) rfl ?_ hHeld ?_
 ·intro ww hSw
  try dsimp only at hSw
  go_simp
  try with_reducible rfl
  try omega
 refine tz 5 11 rfl hHeld ?_
 refine tz 6 12 rfl hHeld ?_
 refine ty 7 13 ?_ rfl ?_ hHeld ?_
 rotate_left
 ·intro ww hSw
  try dsimp only at hSw
  have H_0:=(H.below hSw).at_ (v:=.int .u32 a) 0 rfl
  have H_1:=(H.below hSw).at_ (v:=.int .i64 p) 1 rfl
  go_simp
  try with_reducible rfl
  try omega
 refine ty 8 14 (.int .u32 d) rfl ?_ hHeld ?_
 ·intro ww hSw
  try dsimp only at hSw
  go_simp
  try with_reducible rfl
  try omega
 refine ty 9 15 (.int .i64 d) rfl ?_ hHeld ?_
 ·intro ww hSw
  try dsimp only at hSw
  go_simp
  try with_reducible rfl
  try omega
 refine ty 10 16 ?_ rfl ?_ hHeld ?_
 rotate_left
 ·intro ww hSw
  try dsimp only at hSw
  have H_0:=(H.below hSw).at_ (v:=.int .u32 a) 0 rfl
  have H_1:=(H.below hSw).at_ (v:=.int .i64 p) 1 rfl
  go_simp
  try with_reducible rfl
  try omega
 refine rd 11 17 rfl fun K0 hK=>?_
 go_simp
 refine (rmany_yes hM).mono ?_
 rintro e ww ⟨rfl,K'⟩
 refine hK.out _ _ (Below.then_ hHeld K') ?_
 clear hHeld K' hK K0
 intro hHeld
 try simp only [Act.put,sA,sZ,sS]
 refine ty 12 18 (.bool true) rfl ?_ hHeld ?_
 ·intro ww hSw
  try dsimp only at hSw
  go_simp
  try with_reducible rfl
  try omega
 refine ty 13 19 (.bool true) rfl ?_ hHeld ?_
 ·intro ww hSw
  try dsimp only at hSw
  go_simp
  try with_reducible rfl
  try omega
 refine wpAnyH_done (by kernel_rfl) ?_ _
 replace H:=H.below hHeld
 replace K:=Below.then_ K hHeld
 clear hHeld
 have H_0:=H.at_ (v:=.int .u32 a) 0 rfl
 have H_1:=H.at_ (v:=.int .i64 p) 1 rfl
 have H_z:=H.lt
 go_wp2
 go_ret2
 exact ⟨rfl,K⟩
theorem roffset_in (x:Nat) (hx:x<4294967296) (hM:Much a p M) (h1:a≤x) (h2:x<a+M) :
  Calls Tryz.prog 41 #[.agg #[.int .u32 a,.int .i64 p],.int .u32 x] w fun e w'=>e=.returned (.tuple #[.int .i64 (x - a:Nat),.int .i64 0])∧Below w.heap.size w w':=by
 have K:=below_alloc w (.cells #[.int .u32 a,.int .i64 p] 24)
 have H:=Bk.new w #[.int .u32 a,.int .i64 p] 24
 have e1:decide ((x:Int)<(a:Int))=false:=by simp;omega
 obtain ⟨d,hd⟩:∃ d,x=a+d:=⟨x - a,by omega⟩
 subst hd
 have e2:decide ((M:Int)≤(d:Int))=false:=by simp;omega
 have e3:IntKind.u32.wrap ((a:Int)+(d:Int) - (a:Int))=(d:Int):=by rw [IntWalk.u32_in _ (by omega)];omega
 have e4:IntKind.i64.wrap (d:Int)=(d:Int):=IntWalk.i64_in _ (by omega)
 go_enter Tryz.func41,Tryz.ntmps41
 go_wp2_with fail
 generalize w.alloc (.cells #[.int .u32 a,.int .i64 p] 24)=w1 at H K ⊢
 generalize w.heap.size=g at H ⊢
 refine wp_region_held_drew (S:=fun w'=>Below w1.heap.size w1 w') (by kernel_rfl) (Below.refl _ _).drew (fun hHeld=>?_)
 refine tz 0 6 rfl hHeld ?_
 refine tz 1 7 rfl hHeld ?_
 refine ty 2 8 ?_ rfl ?_ hHeld ?_
 rotate_left
 ·intro ww hSw
  try dsimp only at hSw
  have H_0:=(H.below hSw).at_ (v:=.int .u32 a) 0 rfl
  have H_1:=(H.below hSw).at_ (v:=.int .i64 p) 1 rfl
  go_simp
  try with_reducible rfl
  try omega
 refine tz 3 9 rfl hHeld ?_
 refine ty 4 10 (.bool false) rfl ?_ hHeld ?_
 ·intro ww hSw
  try dsimp only at hSw
  go_simp
  try with_reducible rfl
  try omega
 refine tz 5 11 rfl hHeld ?_
 refine tz 6 12 rfl hHeld ?_
 refine ty 7 13 ?_ rfl ?_ hHeld ?_
 rotate_left
 ·intro ww hSw
  try dsimp only at hSw
  have H_0:=(H.below hSw).at_ (v:=.int .u32 a) 0 rfl
  have H_1:=(H.below hSw).at_ (v:=.int .i64 p) 1 rfl
  go_simp
  try with_reducible rfl
  try omega
 refine ty 8 14 (.int .u32 d) rfl ?_ hHeld ?_
 ·intro ww hSw
  try dsimp only at hSw
  go_simp
  try with_reducible rfl
  try omega
 refine ty 9 15 (.int .i64 d) rfl ?_ hHeld ?_
 ·intro ww hSw
  try dsimp only at hSw
  go_simp
  try with_reducible rfl
  try omega
 refine ty 10 16 ?_ rfl ?_ hHeld ?_
 rotate_left
 ·intro ww hSw
  try dsimp only at hSw
  have H_0:=(H.below hSw).at_ (v:=.int .u32 a) 0 rfl
  have H_1:=(H.below hSw).at_ (v:=.int .i64 p) 1 rfl
  go_simp
  try with_reducible rfl
  try omega
 refine rd 11 17 rfl fun K0 hK=>?_
 go_simp
 refine (rmany_yes hM).mono ?_
 rintro e ww ⟨rfl,K'⟩
 refine hK.out _ _ (Below.then_ hHeld K') ?_
 clear hHeld K' hK K0
 intro hHeld
 try simp only [Act.put,sA,sZ,sS]
 refine ty 12 18 (.bool false) rfl ?_ hHeld ?_
 ·intro ww hSw
  try dsimp only at hSw
  go_simp
  try with_reducible rfl
  try omega
 refine ty 13 19 (.bool false) rfl ?_ hHeld ?_
 ·intro ww hSw
  try dsimp only at hSw
  go_simp
  try with_reducible rfl
  try omega
 refine wpAnyH_done (by kernel_rfl) ?_ _
 replace H:=H.below hHeld
 replace K:=Below.then_ K hHeld
 clear hHeld
 have H_0:=H.at_ (v:=.int .u32 a) 0 rfl
 have H_1:=H.at_ (v:=.int .i64 p) 1 rfl
 have H_z:=H.lt
 go_wp2
 go_ret2
 exact ⟨by rw [Nat.add_sub_cancel_left];exact ret_two (by omega),K⟩
theorem roffset_any (x:Nat) (hx:x<4294967296) (hM:Much a p M) :
  Calls Tryz.prog 41 #[.agg #[.int .u32 a,.int .i64 p],.int .u32 x] w fun e w'=>e=.returned (.tuple #[.int .i64 (ofO a M x),.int .i64 (ofE a M x)])∧Below w.heap.size w w':=by
 unfold ofO ofE
 by_cases h1:a≤x
 ·by_cases h2:x<a+M
  ·rw [if_pos ⟨h1,h2⟩,if_pos ⟨h1,h2⟩]
   exact roffset_in x hx hM h1 h2
  ·rw [if_neg (fun h=>h2 h.2),if_neg (fun h=>h2 h.2)]
   exact roffset_high x hx hM (by omega)
 ·rw [if_neg (fun h=>h1 h.1),if_neg (fun h=>h1 h.1)]
  exact roffset_low x (by omega)
theorem rheld_any (h:IS .i64 lo w A n c xs) (hn:n≤65536) (x:Int) :
  Calls Tryz.prog 32 #[.agg #[.int .u32 a,.int .i64 p,.slice A n c,.int .i64 sh,.int .i64 wo,.int .i64 qu,.int .i64 tr],.int .i64 x] w fun e w'=>e=.returned (.bool (hasB xs x))∧Below w.heap.size w w':=by
 have hl:=h.len
 have K:=below_alloc w (.cells #[.int .u32 a,.int .i64 p,.slice A n c,.int .i64 sh,.int .i64 wo,.int .i64 qu,.int .i64 tr] 27)
 have H:=Bk.new w #[.int .u32 a,.int .i64 p,.slice A n c,.int .i64 sh,.int .i64 wo,.int .i64 qu,.int .i64 tr] 27
 replace h:=h.below K
 go_enter Tryz.func32,Tryz.ntmps32
 go_wp2
 generalize w.alloc (.cells #[.int .u32 a,.int .i64 p,.slice A n c,.int .i64 sh,.int .i64 wo,.int .i64 qu,.int .i64 tr] 27)=w1 at H K h ⊢
 generalize w.heap.size=g at H ⊢
 have H_2:=H.at_ (v:=.slice A n c) 2 rfl
 have H_z:=H.lt
 go_loop [5] (fun i=>∃ k:Nat,k≤n∧i=.int .i64 k∧Hid (∀ j,j<k→gi xs j≠x)) (fun i=>n - (intOf i).toNat)
 case atStart=>exact ⟨0,Nat.zero_le _,rfl,fun j hj=>by omega⟩
 case round =>
  obtain ⟨k,hk,rfl,HH⟩:=hrel
  by_cases hlt:k<n
  ·obtain ⟨b,o,rfl,_,hc⟩:=h.get hlt
   by_cases he:gi xs k=x
   ·have e1:(gi xs k == x)=true:=by simp [he]
    have hx:hasB xs x=true:=decide_eq_true (mem_gi.2 ⟨k,by omega,he⟩)
    clear he
    go_wp2
    go_ret
    exact ⟨by first | rfl | exact ret_bool hx.symm,K⟩
   ·have e1:(gi xs k == x)=false:=by simpa using he
    have H2:Hid (∀ j,j<k+1→gi xs j≠x):=fun j hj=>by
     rcases Nat.lt_or_ge j k with g | g
     ·exact HH.out j g
     ·obtain rfl:j=k:=by omega
      exact he
    clear he
    go_wp2
    go_round
    case rel=>exact ⟨k+1,by omega,by go_num,H2⟩
    case measure=>simp [intOf];omega
  ·have hx:hasB xs x=false:=decide_eq_false (fun g=>by
    obtain ⟨j,hj,e⟩:=mem_gi.1 g
    exact HH.out j (by omega) e)
   go_wp2
   go_ret
   exact ⟨by first | rfl | exact ret_bool hx.symm,K⟩
theorem rheld_is {x:Int} {b:Bool} (h:IS .i64 lo w A n c xs) (hn:n≤65536) (hb:hasB xs x=b) :
  Calls Tryz.prog 32 #[.agg #[.int .u32 a,.int .i64 p,.slice A n c,.int .i64 sh,.int .i64 wo,.int .i64 qu,.int .i64 tr],.int .i64 x] w fun e w'=>e=.returned (.bool b)∧Below w.heap.size w w':=by
 subst hb;exact rheld_any h hn x
theorem rfind_out (x:Nat) (hx:x<4294967296) (hM:Much a p M) (hh:¬ (a≤x∧x<a+M)) :
  Calls Tryz.prog 44 #[.agg #[.int .u32 a,.int .i64 p,.slice A n c,.int .i64 sh,.int .i64 wo,.int .i64 qu,.int .i64 tr],.int .u32 x] w fun e w'=>e=.returned (.tuple #[.int .i64 0,.int .i64 3])∧Below w.heap.size w w':=by
 have K:=below_alloc w (.cells #[.int .u32 a,.int .i64 p,.slice A n c,.int .i64 sh,.int .i64 wo,.int .i64 qu,.int .i64 tr] 27)
 have H:=Bk.new w #[.int .u32 a,.int .i64 p,.slice A n c,.int .i64 sh,.int .i64 wo,.int .i64 qu,.int .i64 tr] 27
 have T:Hid (∀ w2:World,Calls Tryz.prog 41 #[.agg #[.int .u32 a,.int .i64 p],.int .u32 x] w2 fun e w'=>e=.returned (.tuple #[.int .i64 0,.int .i64 3])∧Below w2.heap.size w2 w'):=by
  intro w2
  have:=roffset_any (w:=w2) (p:=p) x hx hM
  unfold ofO ofE at this
  rwa [if_neg hh,if_neg hh] at this
 go_enter Tryz.func44,Tryz.ntmps44
 go_wp2_with fail
 generalize w.alloc (.cells #[.int .u32 a,.int .i64 p,.slice A n c,.int .i64 sh,.int .i64 wo,.int .i64 qu,.int .i64 tr] 27)=w1 at H K ⊢
 generalize w.heap.size=g at H ⊢
 refine (T.out _).mono ?_
 rintro e w2 ⟨rfl,K'⟩
 replace H:=H.below K'
 replace K:=Below.then_ K K'
 clear K'
 go_wp2
 go_ret2
 exact ⟨rfl,K⟩
theorem rfind_held (x:Nat) (hx:x<4294967296) (hM:Much a p M) (h1:a≤x) (h2:x<a+M) (h:IS .i64 lo w A n c xs) (hn:n≤65536) (hh:hasB xs ((x - a:Nat):Int)=true) :
  Calls Tryz.prog 44 #[.agg #[.int .u32 a,.int .i64 p,.slice A n c,.int .i64 sh,.int .i64 wo,.int .i64 qu,.int .i64 tr],.int .u32 x] w fun e w'=>e=.returned (.tuple #[.int .i64 0,.int .i64 4])∧Below w.heap.size w w':=by
 have K:=below_alloc w (.cells #[.int .u32 a,.int .i64 p,.slice A n c,.int .i64 sh,.int .i64 wo,.int .i64 qu,.int .i64 tr] 27)
 have H:=Bk.new w #[.int .u32 a,.int .i64 p,.slice A n c,.int .i64 sh,.int .i64 wo,.int .i64 qu,.int .i64 tr] 27
 replace h:=h.below K
 go_enter Tryz.func44,Tryz.ntmps44
 go_wp2_with fail
 generalize w.alloc (.cells #[.int .u32 a,.int .i64 p,.slice A n c,.int .i64 sh,.int .i64 wo,.int .i64 qu,.int .i64 tr] 27)=w1 at H K h ⊢
 generalize w.heap.size=g at H ⊢
 refine (roffset_in x hx hM h1 h2).mono ?_
 rintro e w2 ⟨rfl,K'⟩
 replace H:=H.below K'
 replace h:=h.below K'
 replace K:=Below.then_ K K'
 clear K'
 have H_0:=H.at_ (v:=.int .u32 a) 0 rfl
 have H_1:=H.at_ (v:=.int .i64 p) 1 rfl
 have H_2:=H.at_ (v:=.slice A n c) 2 rfl
 have H_3:=H.at_ (v:=.int .i64 sh) 3 rfl
 have H_4:=H.at_ (v:=.int .i64 wo) 4 rfl
 have H_5:=H.at_ (v:=.int .i64 qu) 5 rfl
 have H_6:=H.at_ (v:=.int .i64 tr) 6 rfl
 have H_z:=H.lt
 go_wp2_with fail
 refine (rheld_is h (by omega) hh).mono ?_
 rintro e w3 ⟨rfl,K'⟩
 clear H_0 H_1 H_2 H_3 H_4 H_5 H_6 H_z
 replace H:=H.below K'
 replace h:=h.below K'
 replace K:=Below.then_ K K'
 clear K'
 go_wp2
 go_ret2
 exact ⟨rfl,K⟩
theorem rfind_ok (x:Nat) (hx:x<4294967296) (hM:Much a p M) (h1:a≤x) (h2:x<a+M) (h:IS .i64 lo w A n c xs) (hn:n≤65536) (hh:hasB xs ((x - a:Nat):Int)=false) :
  Calls Tryz.prog 44 #[.agg #[.int .u32 a,.int .i64 p,.slice A n c,.int .i64 sh,.int .i64 wo,.int .i64 qu,.int .i64 tr],.int .u32 x] w fun e w'=>e=.returned (.tuple #[.int .i64 (x - a:Nat),.int .i64 0])∧Below w.heap.size w w':=by
 have K:=below_alloc w (.cells #[.int .u32 a,.int .i64 p,.slice A n c,.int .i64 sh,.int .i64 wo,.int .i64 qu,.int .i64 tr] 27)
 have H:=Bk.new w #[.int .u32 a,.int .i64 p,.slice A n c,.int .i64 sh,.int .i64 wo,.int .i64 qu,.int .i64 tr] 27
 replace h:=h.below K
 go_enter Tryz.func44,Tryz.ntmps44
 go_wp2_with fail
 generalize w.alloc (.cells #[.int .u32 a,.int .i64 p,.slice A n c,.int .i64 sh,.int .i64 wo,.int .i64 qu,.int .i64 tr] 27)=w1 at H K h ⊢
 generalize w.heap.size=g at H ⊢
 refine (roffset_in x hx hM h1 h2).mono ?_
 rintro e w2 ⟨rfl,K'⟩
 replace H:=H.below K'
 replace h:=h.below K'
 replace K:=Below.then_ K K'
 clear K'
 have H_0:=H.at_ (v:=.int .u32 a) 0 rfl
 have H_1:=H.at_ (v:=.int .i64 p) 1 rfl
 have H_2:=H.at_ (v:=.slice A n c) 2 rfl
 have H_3:=H.at_ (v:=.int .i64 sh) 3 rfl
 have H_4:=H.at_ (v:=.int .i64 wo) 4 rfl
 have H_5:=H.at_ (v:=.int .i64 qu) 5 rfl
 have H_6:=H.at_ (v:=.int .i64 tr) 6 rfl
 have H_z:=H.lt
 go_wp2_with fail
 refine (rheld_is h (by omega) hh).mono ?_
 rintro e w3 ⟨rfl,K'⟩
 clear H_0 H_1 H_2 H_3 H_4 H_5 H_6 H_z
 replace H:=H.below K'
 replace h:=h.below K'
 replace K:=Below.then_ K K'
 clear K'
 go_wp2
 go_ret2
 exact ⟨rfl,K⟩
theorem rfind_any (x:Nat) (hx:x<4294967296) (hM:Much a p M) (h:IS .i64 lo w A n c xs) (hn:n≤65536) :
  Calls Tryz.prog 44 #[.agg #[.int .u32 a,.int .i64 p,.slice A n c,.int .i64 sh,.int .i64 wo,.int .i64 qu,.int .i64 tr],.int .u32 x] w fun e w'=>e=.returned (.tuple #[.int .i64 (fiO a M x xs),.int .i64 (fiE a M x xs)])∧Below w.heap.size w w':=by
 unfold fiO fiE
 by_cases h1:a≤x∧x<a+M
 ·cases hh:hasB xs ((x - a:Nat):Int) with
  | false=>simp only [h1,and_self,if_true];exact rfind_ok x hx hM h1.1 h1.2 h hn hh
  | true=>simp only [h1,and_self,if_true];exact rfind_held x hx hM h1.1 h1.2 h hn hh
 ·rw [if_neg (fun g=>h1 ⟨g.1,g.2.1⟩),if_neg h1]
  exact rfind_out x hx hM h1
theorem ramay_is {b:Bool} (ha:a<4294967296) (hb:mayB a p=b) :
  Calls Tryz.prog 54 #[.agg #[.int .u32 a,.int .i64 p]] w fun e w'=>e=.returned (.bool b)∧Below w.heap.size w w':=by
 subst hb;exact ramay_any a ha p w
end
end Go.Proofs.YtfhefofkhmkcnaaGreatDoor

/-
 What the document's own May answers of a configuration;the anchor: the answers that the document fixes are given.
-/
namespace Go.Proofs.YtfhefofkhmkcnaaGreatDoor
set_option maxRecDepth 100000
set_option maxRecDepth 100000
open Go.RowKit
set_option maxHeartbeats 8000000
section
variable {w:World} {lo a M:Nat} {p sh wo qu tr:Int} {A:Option Addr} {n c:Nat} {xs:List Int}
theorem confB_no (h:confB a p n xs sh wo qu tr=true):mayB a p=true∧n≤64∧risB (manyI a p) 0 xs=true∧1≤sh∧sh≤64∧1≤wo∧wo≤64∧1≤qu∧qu≤64∧1≤tr∧tr≤8:=by
 unfold confB confL someB at h
 simp at h
 obtain ⟨h1,h2,h3,h4,h5,h6,h7⟩:=h
 exact ⟨h1,by omega,h3,h4.1,h4.2,h5.1,h5.2,h6.1,h6.2,h7.1,h7.2⟩
end
section
variable {w:World} {A:Option Addr}
end
end Go.Proofs.YtfhefofkhmkcnaaGreatDoor
