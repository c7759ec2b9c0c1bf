/-
  What the functions that these laws call answer, and what follows of it; conditions: those that each theorem names. In this file: CellMath.
-/
import Derived.Test.YtfhefofkhmkcnaaGreatDoorPl4
import Derived.Laws.CopyOwn
/-
 Plain facts on lists of numbers that are loaded,stored and held against one another,and the word US: a slice value reads,in a world,as a list of words below 2^64.
-/
namespace Go.Proofs.YtfhefofkhmkcnaaGreatDoor
set_option maxRecDepth 100000
set_option maxRecDepth 100000
open Go.RowKit
set_option maxHeartbeats 8000000
def U64:Nat:=18446744073709551616
def gt (xs:List Nat) (j:Nat):Nat:=xs.getD j 0
def ldI (xs:List Nat) (a:Int):Nat:=if a<0 then 0 else gt xs a.toNat
def stI (xs:List Nat) (a:Int) (v:Nat):List Nat:=if a<0 then xs else xs.set a.toNat v
theorem gt_out {xs:List Nat} {j:Nat} (h:xs.length≤j):gt xs j=0:=by
 unfold gt;rw [List.getD_eq_getElem?_getD,List.getElem?_eq_none h];rfl
theorem gt_set {xs:List Nat} {i j v:Nat} (h:i<xs.length):gt (xs.set i v) j=if i=j then v else gt xs j:=by
 unfold gt
 rw [List.getD_eq_getElem?_getD,List.getD_eq_getElem?_getD,List.getElem?_set]
 by_cases e:i=j
 ·subst e;simp [h]
 ·simp [e]
theorem gt_mem {xs:List Nat} {j:Nat} (h:j<xs.length):gt xs j∈xs:=by
 unfold gt;rw [List.getD_eq_getElem?_getD,List.getElem?_eq_getElem h];exact List.getElem_mem h
theorem gt_lt {xs:List Nat} (hf:∀ x∈xs,x<U64) (j:Nat):gt xs j<U64:=by
 by_cases h:j<xs.length
 ·exact hf _ (gt_mem h)
 ·rw [gt_out (by omega)];decide
theorem ext_gt {xs ys:List Nat} (hl:xs.length=ys.length) (h:∀ j,j<xs.length→gt xs j=gt ys j):xs=ys:=by
 apply List.ext_getElem hl
 intro j h1 h2
 have:=h j h1
 unfold gt at this
 simpa [List.getD_eq_getElem?_getD,h1,h2] using this
theorem stI_out {xs:List Nat} {a:Int} (v:Nat) (h:a<0∨(xs.length:Int)≤a):stI xs a v=xs:=by
 unfold stI
 by_cases h0:a<0
 ·simp [h0]
 ·rw [if_neg h0,List.set_eq_of_length_le (by omega)]
theorem stI_nat (xs:List Nat) (i v:Nat):stI xs (i:Int) v=xs.set i v:=by unfold stI;rw [if_neg (by omega)];rfl
theorem ldI_nat (xs:List Nat) (i:Nat):ldI xs (i:Int)=gt xs i:=by unfold ldI;rw [if_neg (by omega)];rfl
theorem ldI_out {xs:List Nat} {a:Int} (h:a<0∨(xs.length:Int)≤a):ldI xs a=0:=by
 unfold ldI
 by_cases h0:a<0
 ·simp [h0]
 ·rw [if_neg h0,gt_out (by omega)]
theorem fit_set {xs:List Nat} (hf:∀ x∈xs,x<U64) (a:Nat) {v:Nat} (hv:v<U64):∀ x∈xs.set a v,x<U64:=by
 intro x hx
 rcases List.mem_or_eq_of_mem_set hx with h | h
 ·exact hf x h
 ·omega
theorem fit_stI {xs:List Nat} (hf:∀ x∈xs,x<U64) (a:Int) {v:Nat} (hv:v<U64):∀ x∈stI xs a v,x<U64:=by
 intro x hx
 unfold stI at hx
 split at hx
 ·exact hf x hx
 ·rcases List.mem_or_eq_of_mem_set hx with h | h
  ·exact hf x h
  ·omega
structure US (w:World) (A:Option Addr) (n c:Nat) (xs:List Nat):Prop where
 len:xs.length=n
 cap:n≤c
 most:c≤maxLen
 nil_:A=none→c=0
 fit:∀ x∈xs,x<U64
 cells:0<n→∃ b o,A=some ⟨b,o,none⟩∧b<w.heap.size∧∀ j,j<n→w.cell? ⟨b,o+j,none⟩=some (.int .u64 (gt xs j:Nat))
section
variable {w w':World} {A:Option Addr} {n c:Nat} {xs:List Nat}
theorem US.below (h:US w A n c xs) (hb:Below w.heap.size w w'):US w' A n c xs :=
 ⟨h.len,h.cap,h.most,h.nil_,h.fit,fun hn=>by
  obtain ⟨b,o,e,hlt,hc⟩:=h.cells hn
  exact ⟨b,o,e,Nat.lt_of_lt_of_le hlt hb.size,fun j hj=>(hb.cell (p:=⟨b,o+j,none⟩) hlt).trans (hc j hj)⟩⟩
theorem US.get (h:US w A n c xs) {j:Nat} (hj:j<n):∃ b o,A=some ⟨b,o,none⟩∧b<w.heap.size∧w.cell? ⟨b,o+j,none⟩=some (.int .u64 (gt xs j:Nat)):=by
 obtain ⟨b,o,e,hlt,hc⟩:=h.cells (by omega)
 exact ⟨b,o,e,hlt,hc j hj⟩
theorem US.none_ (w:World):US w none 0 0 []:=⟨rfl,Nat.le_refl _,by unfold maxLen;omega,fun _=>rfl,by simp,fun h=>absurd h (by omega)⟩
/-- What a call that answers a list of words leaves: the list, and nothing that was there is otherwise. -/
def RetS (n:Nat) (xs:List Nat) (w:World) (e:Ending) (w':World):Prop:=∃ A c,e=.returned (.slice A n c)∧US w' A n c xs∧Below w.heap.size w w'
end
theorem US.of_own {w:World} {g n c base e:Nat} {xs:List Nat} (h:w.ownsRow base e 1 (.slice (some ⟨g,0,none⟩) n c) n (xs.map fun x:Nat=>Value.int .u64 (x:Int))) (hf:∀ x∈xs,x<U64):US w (some ⟨g,0,none⟩) n c xs:=by
 have hl:xs.length=n:=by have:=h.1;simpa using this
 rcases h.2 with ⟨hv,_⟩ | ⟨g',cap,cur,hv,hb,hh,hnc,hcm,hcs,ht⟩
 ·cases hv
 ·injection hv with h1 h2 h3
  injection h1 with h1
  injection h1 with h1
  subst h1;subst h3
  refine ⟨hl,hnc,hcm,(fun h=>by cases h),hf,fun hn=>⟨g,0,rfl,?_,fun j hj=>?_⟩⟩
  ·exact lt_of_block hh
  ·rw [Nat.zero_add,h.cellAt j (by omega)]
   rw [List.getElem?_map,List.getElem?_eq_getElem (by omega)]
   unfold gt
   simp [List.getD_eq_getElem?_getD,show j<xs.length by omega]
def uv (x:Nat):Value:=.int .u64 (x:Int)
/-- The block g is just the words xs, none of them frozen. -/
def Blk (w:World) (g:Nat) (t:TypeId) (xs:List Nat):Prop:=w.heap[g]? = some (.cells (xs.map uv).toArray t (0,0))
section
variable {w w':World} {g:Nat} {t:TypeId} {xs:List Nat}
theorem Blk.lt (h:Blk w g t xs):g<w.heap.size:=lt_of_block h
theorem Blk.cell (h:Blk w g t xs) {i:Nat} (hi:i<xs.length):w.cell? ⟨g,i,none⟩=some (.int .u64 (gt xs i:Nat)):=by
 unfold Blk at h
 have:=cell_of_row w g i _ t (0,0) h
 rw [this]
 unfold gt
 simp [uv,List.getD_eq_getElem?_getD,hi]
theorem Blk.frozen (h:Blk w g t xs) (i:Nat):w.frozen? ⟨g,i,none⟩=false:=by
 unfold Blk at h
 simp [World.frozen?,h]
theorem Blk.set_ (h:Blk w g t xs) (i v:Nat):Blk (w.setCell ⟨g,i,none⟩ (.int .u64 (v:Int))) g t (xs.set i v):=by
 unfold Blk at h ⊢
 simp [World.setCell,Array.getElem?_modify,h,List.map_set,uv]
theorem Blk.us {n:Nat} (h:Blk w g t xs) (hf:∀ x∈xs,x<U64) (hn:xs.length=n) (hm:n≤65536):US w (some ⟨g,0,none⟩) n n xs :=
 ⟨hn,Nat.le_refl _,by unfold maxLen;omega,(fun h=>by cases h),hf,fun _=>⟨g,0,rfl,h.lt,fun j hj=>by rw [Nat.zero_add];exact h.cell (by omega)⟩⟩
theorem Blk.of_made {base n:Nat} (h:w.ownsRow base t 1 (.slice (some ⟨g,0,none⟩) n n) n (madeCells (Value.int .u64 0).cells (n*1)).toList):Blk w g t (List.replicate n 0):=by
 rcases h.2 with ⟨hv,_⟩ | ⟨g',cap,cur,hv,hb,hh,hnc,hcm,hcs,ht⟩
 ·cases hv
 ·injection hv with h1 h2 h3
  injection h1 with h1
  injection h1 with h1
  subst h1;subst h3
  unfold Blk
  rw [hh]
  have e:cur.toList=(madeCells (Value.int .u64 0).cells (n*1)).toList:=by
   rw [← ht,List.take_of_length_le (by simp;omega)]
  have e2:(madeCells (Value.int .u64 0).cells (n*1)).toList=(List.replicate n 0).map uv:=by
   simp only [madeCells,Value.cells,uv,Nat.mul_one,Array.toList_map,Array.toList_range,List.map_replicate]
   apply List.ext_getElem (by simp)
   intro i h1 h2
   have e1:i%1=0:=by omega
   simp [e1]
  have e3:cur=((List.replicate n 0).map uv).toArray:=by rw [← e2,← e]
  rw [e3]
end
theorem US.src {w w1:World} {A:Option Addr} {n c:Nat} {xs:List Nat} (h:US w A n c xs) (K:Below w.heap.size w w1) (hn:0<n) :
  ∃ ad,A=some ad∧∀ j v,(xs.map uv)[j]? = some v→w1.cell? (ad.add j)=some v:=by
 obtain ⟨b,o,e,hlt,hc⟩:=(h.below K).cells hn
 refine ⟨_,e,fun j v hv=>?_⟩
 have hl:=h.len
 have hj:j<n:=by
  rcases Nat.lt_or_ge j n with hj | hj
  ·exact hj
  ·rw [List.getElem?_eq_none (by simp;omega)] at hv;cases hv
 have e2:v=.int .u64 (gt xs j:Nat):=by
  rw [List.getElem?_map,List.getElem?_eq_getElem (by omega)] at hv
  injection hv with hv
  rw [← hv];unfold gt uv;simp [List.getD_eq_getElem?_getD,show j<xs.length by omega]
 rw [e2,← hc j hj]
 rw [Addr.add_lit]
theorem uv_one (xs:List Nat):∀ v∈xs.map uv,v.oneCell'=true:=by
 intro v hv
 obtain ⟨x,_,rfl⟩:=List.mem_map.1 hv
 rfl
theorem run_copy_all {P:Program} {w w1:World} {A:Option Addr} {n c g B:Nat} {xs:List Nat} {t e:TypeId} (hu:P.underlying t=some (.slice e)) (hsz:(P.info? e).map (·.size)=some 1) (h:US w A n c xs) (K:Below w.heap.size w w1) (hn:0<n)
  (hB:Blk w1 g e (List.replicate n 0)) (hBg:B≤g) (K1:Below B w w1) (ty:TypeId) :
  ∃ w2,(Builtin.copy_ #[t,t] ty #[.slice (some ⟨g,0,none⟩) n n,.slice A n c]).run P w1=.ok (.int .i64 (n:Nat)) w2∧Blk w2 g e xs∧Below B w w2:=by
 obtain ⟨ad,rfl,hs⟩:=h.src K hn
 have hl:(xs.map uv).length=n:=by rw [List.length_map,h.len]
 have hr:=run_copy_row (P:=P) w1 t t ty e g 0 n n ad n c _ e (xs.map uv) hu hsz hB (by rw [hl];exact (Nat.min_self n).symm) hs (by simp [h.len]) (uv_one xs)
 refine ⟨_,by rw [hl] at hr;exact hr,?_,below_setRow K1 hBg _⟩
 unfold Blk
 rw [setRow_heap w1 g _ _ e _ hB]
 simp
/-- The row at the head of block g is the call's own, and its first n words are xs. -/
def Own (w:World) (base g n c:Nat) (t:TypeId) (xs:List Nat):Prop:=w.ownsRow base t 1 (.slice (some ⟨g,0,none⟩) n c) n (xs.map uv)
theorem Own.us {w:World} {base g n c:Nat} {t:TypeId} {xs:List Nat} (h:Own w base g n c t xs) (hf:∀ x∈xs,x<U64):US w (some ⟨g,0,none⟩) n c xs:=US.of_own h hf
theorem Own.cell {w:World} {base g n c:Nat} {t:TypeId} {xs:List Nat} (h:Own w base g n c t xs) {i:Nat} (hi:i<n):w.cell? ⟨g,i,none⟩=some (.int .u64 (gt xs i:Nat)):=by
 have hl:xs.length=n:=by have:=h.1;simpa using this
 rw [World.ownsRow.cellAt h i (by omega)]
 unfold gt uv
 simp [List.getD_eq_getElem?_getD,hl,hi]
theorem Own.frozen {w:World} {base g n c:Nat} {t:TypeId} {xs:List Nat} (h:Own w base g n c t xs) (i:Nat):w.frozen? ⟨g,i,none⟩=false:=World.ownsRow.frozenAt h i
theorem Own.set_ {w:World} {base g n c:Nat} {t:TypeId} {xs:List Nat} (h:Own w base g n c t xs) (i v:Nat):Own (w.setCell ⟨g,i,none⟩ (.int .u64 (v:Int))) base g n c t (xs.set i v):=by
 have:=(World.ownsRow.stored h i (.int .u64 (v:Int))).1
 unfold Own
 rw [List.map_set];exact this
theorem Own.ge {w:World} {base g n c:Nat} {t:TypeId} {xs:List Nat} (h:Own w base g n c t xs):base≤g:=by
 rcases h.2 with ⟨hv,_⟩ | ⟨g',cap,cur,hv,hb,_⟩
 ·cases hv
 ·injection hv with h1;injection h1 with h1;injection h1 with h1;omega
theorem run_append_us {P:Program} {w:World} {base g0:Nat} {t e:TypeId} {i:TypeInfo} (ht:P.underlying t=some (.slice e)) (hi:P.info? e=some i) (hz:i.zero=some (.int .u64 0)) (hsize:i.size=1) (hby:i.bytes=8)
  (hown:w.ownsRow base e 1 (.slice (some ⟨g0,0,none⟩) 0 0) 0 []) {A:Option Addr} {n c:Nat} {xs:List Nat} (h:US w A n c xs) (hn:n≤65536) (hb0:base≤g0) (hbase:base≤w.heap.size) (ty:TypeId) :
  ∃ g c' w',(Builtin.append_ #[t,t] ty #[.slice (some ⟨g0,0,none⟩) 0 0,.slice A n c]).run P w=.ok (.slice (some ⟨g,0,none⟩) n c') w'∧Own w' base g n c' e xs∧Below base w w':=by
 have hl:=h.len
 have hbel:∀ w',w.grownBy w' (Value.slice (some ⟨g0,0,none⟩) 0 0).ownBlock→Below base w w':=fun w' hg =>
  (Below.refl _ _).grown hg hbase (by intro k hk;simp [Value.ownBlock] at hk;omega)
 rcases A with _ | ad
 ·have hc:=h.nil_ rfl
  have hcap:=h.cap
  obtain rfl:c=0:=hc
  obtain rfl:n=0:=by omega
  obtain rfl:xs=[]:=List.eq_nil_of_length_eq_zero hl
  exact ⟨g0,0,w,run_append_owned_none w base t ty e i 1 ht hi _ 0 [] hown,hown,Below.refl _ _⟩
 ·have hcells:∀ j u,(xs.map uv)[j]? = some u→w.cell? (ad.add j)=some u:=by
   intro j u hu
   rcases Nat.eq_zero_or_pos n with h0 | h0
   ·subst h0
    obtain rfl:xs=[]:=List.eq_nil_of_length_eq_zero hl
    simp at hu
   ·obtain ⟨ad',e',hc⟩:=h.src (Below.refl _ _) h0
    injection e' with e'
    subst e'
    exact hc j u hu
  obtain ⟨v',w',hrun,hown',hg,hnil⟩:=run_append_own (P:=P) w base t ty e i _ 1 8 ht hi hz hsize hby rfl (by omega) _ 0 [] hown ad n c (xs.map uv) (by simp [hl]) hcells (uv_one xs) (by unfold maxLen;omega) (by omega) hbase
  have hown2:=hown'
  rcases hown'.2 with ⟨rfl,_⟩ | ⟨g,cap,cur,rfl,_⟩
  ·have:=(hnil.1 rfl).1;cases this
  ·refine ⟨g,cap,w',?_,?_,hbel w' hg⟩
   ·rw [hrun];simp
   ·unfold Own;simpa using hown2
theorem wf_U64 {a:Int} (h:(Lit.int .u64 a).wf=true):∃ X:Nat,a=X∧X<U64:=by
 have h':0≤a∧a≤18446744073709551615:=by simpa [Lit.wf,IntKind.min,IntKind.max,IntKind.bits,IntKind.signed] using h
 exact ⟨a.toNat,by omega,by unfold U64;omega⟩
/-- The same as a list of words. -/
theorem US.of_row {w:World} {a:Option Addr} {len cap:Nat} {zs:List Int} (h:IsRow .u64 w a len cap zs):∃ xs,US w a len cap xs:=by
 rcases h with ⟨rfl,rfl,rfl,rfl⟩ | ⟨x,rfl,hl,hm,hz,hcell,hwz⟩
 ·exact ⟨[],US.none_ w⟩
 ·have hnn:∀ i,i<zs.length→∃ X:Nat,zs.getD i 0=X∧X<U64:=fun i hi=>by
   have e:zs.getD i 0=zs[i]:=by simp [List.getD_eq_getElem?_getD,hi]
   rw [e];exact wf_U64 (hwz _ (List.getElem_mem hi))
  have hg:∀ j,j<len→gt ((zs.take len).map Int.toNat) j=(zs.getD j 0).toNat:=fun j hj=>by
   unfold gt
   simp [List.getD_eq_getElem?_getD,hj,show j<zs.length by omega]
  refine ⟨(zs.take len).map Int.toNat,by simp;omega,hl,hm,(fun h=>by cases h),?_,fun hn=>?_⟩
  ·intro y hy
   obtain ⟨j,hj,rfl⟩:=List.getElem_of_mem hy
   have hj':j<len:=by simp at hj;omega
   have e:=hg j hj'
   unfold gt at e
   rw [List.getD_eq_getElem?_getD,List.getElem?_eq_getElem hj] at e
   obtain ⟨X,hX,hlt⟩:=hnn j (by omega)
   simp only [Option.getD_some] at e
   rw [e,hX];exact hlt
  ·obtain ⟨b,o,sp⟩:=x
   have h0:=hcell 0 (by omega)
   have hsp:sp=none:=by simpa [Addr.add] using World.cell?_spot h0
   subst hsp
   refine ⟨b,o,rfl,World.block_lt_of_cell? w ⟨b,o,none⟩ (by simpa [Addr.add] using h0),fun j hj=>?_⟩
   have hj':=hcell j (by omega)
   rw [hg j hj]
   obtain ⟨X,hX,_⟩:=hnn j (by omega)
   rw [hX] at hj' ⊢
   by_cases hj0:j=0
   ·subst hj0;simpa [Addr.add] using hj'
   ·simpa [Addr.add,hj0] using hj'
end Go.Proofs.YtfhefofkhmkcnaaGreatDoor
