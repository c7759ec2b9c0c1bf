/-
  What the functions that these laws call answer, and what follows of it; conditions: those that each theorem names. In this file: IntMath, Blk.
-/
import Derived.Test.YtfhefofkhmkcnaaGreatDoorPl1
import Derived.OpenShut
import Derived.Below
import Derived.Lib.Hide
import Derived.ArgAppend
import Derived.Maps.AppendAt
import Derived.Laws.Rows
import Derived.Laws.OwnMore
import Derived.Deep.Draws
/-
 Lists of integers in memory. IS: a slice value reads,in a world,as a list of integers of one kind,in a block from 'lo' on;it is kept by whatever leaves old blocks alone;an append that finds no room,and an append onto a row of the call's own,as one run equation each. Conditions: at most 65536 numbers.
-/
namespace Go.Proofs.YtfhefofkhmkcnaaGreatDoor
set_option maxRecDepth 100000
set_option maxRecDepth 100000
open Go.RowKit
set_option maxHeartbeats 8000000
def gi (xs:List Int) (j:Nat):Int:=xs.getD j 0
def iv (k:IntKind) (x:Int):Value:=.int k x
theorem gi_at {xs:List Int} {j:Nat} (h:j<xs.length):gi xs j=xs[j]:=by
 unfold gi;simp [List.getD_eq_getElem?_getD,h]
theorem gi_mem {xs:List Int} {j:Nat} (h:j<xs.length):gi xs j∈xs:=by rw [gi_at h];exact List.getElem_mem h
theorem ext_gi {xs ys:List Int} (hl:xs.length=ys.length) (h:∀ j,j<xs.length→gi xs j=gi ys j):xs=ys:=by
 apply List.ext_getElem hl
 intro j h1 h2
 have:=h j h1
 rwa [gi_at h1,gi_at h2] at this
structure IS (k:IntKind) (lo:Nat) (w:World) (A:Option Addr) (n c:Nat) (xs:List Int):Prop where
 len:xs.length=n
 cap:n≤c
 most:c≤maxLen
 nil_:A=none→c=0
 cells:0<n→∃ b o,A=some ⟨b,o,none⟩∧lo≤b∧b<w.heap.size∧∀ j,j<n→w.cell? ⟨b,o+j,none⟩=some (.int k (gi xs j))
section
variable {k:IntKind} {lo:Nat} {w w':World} {A:Option Addr} {n c:Nat} {xs:List Int}
theorem IS.below (h:IS k lo w A n c xs) (hb:Below w.heap.size w w'):IS k lo w' A n c xs :=
 ⟨h.len,h.cap,h.most,h.nil_,fun hn=>by
  obtain ⟨b,o,e,hl,hlt,hc⟩:=h.cells hn
  exact ⟨b,o,e,hl,Nat.lt_of_lt_of_le hlt hb.size,fun j hj=>(hb.cell (p:=⟨b,o+j,none⟩) hlt).trans (hc j hj)⟩⟩
theorem IS.lower (h:IS k lo w A n c xs) {lo':Nat} (hl:lo'≤lo):IS k lo' w A n c xs :=
 ⟨h.len,h.cap,h.most,h.nil_,fun hn=>by
  obtain ⟨b,o,e,hl',r⟩:=h.cells hn
  exact ⟨b,o,e,Nat.le_trans hl hl',r⟩⟩
/-- Kept where the block that it lies in is kept. -/
theorem IS.keep (h:IS k lo w A n c xs) (hs:w.heap.size≤w'.heap.size) (hk:∀ b o,0<n→A=some ⟨b,o,none⟩→b<w.heap.size→w'.heap[b]? = w.heap[b]?):IS k lo w' A n c xs :=
 ⟨h.len,h.cap,h.most,h.nil_,fun hn=>by
  obtain ⟨b,o,e,hl,hlt,hc⟩:=h.cells hn
  exact ⟨b,o,e,hl,Nat.lt_of_lt_of_le hlt hs,fun j hj=>(World.cell?_of_block (w:=w) (w':=w') (a:=⟨b,o+j,none⟩) (hk b o hn e hlt)).trans (hc j hj)⟩⟩
/-- Kept by a store below the block that it lies in. -/
theorem IS.set_low (h:IS k lo w A n c xs) {p:Addr} (hp:p.block<lo) (u:Value):IS k lo (w.setCell p u) A n c xs :=
 ⟨h.len,h.cap,h.most,h.nil_,fun hn=>by
  obtain ⟨b,o,e,hl,hlt,hc⟩:=h.cells hn
  exact ⟨b,o,e,hl,by simpa [World.setCell] using hlt,fun j hj=>(World.cell?_of_block (w:=w) (w':=w.setCell p u) (a:=⟨b,o+j,none⟩) (Below.heap_setCell w p u b (by omega))).trans (hc j hj)⟩⟩
theorem IS.get (h:IS k lo w A n c xs) {j:Nat} (hj:j<n):∃ b o,A=some ⟨b,o,none⟩∧b<w.heap.size∧w.cell? ⟨b,o+j,none⟩=some (.int k (gi xs j)):=by
 obtain ⟨b,o,e,_,hlt,hc⟩:=h.cells (by omega)
 exact ⟨b,o,e,hlt,hc j hj⟩
theorem IS.none_ (k:IntKind) (lo:Nat) (w:World):IS k lo w none 0 0 []:=⟨rfl,Nat.le_refl _,by unfold maxLen;omega,fun _=>rfl,fun h=>absurd h (by omega)⟩
theorem IS.src (h:IS k lo w A n c xs) (hn:0<n):∃ ad,A=some ad∧∀ j v,(xs.map (iv k))[j]? = some v→w.cell? (ad.add j)=some v:=by
 obtain ⟨b,o,e,_,hlt,hc⟩:=h.cells hn
 refine ⟨_,e,fun j v hv=>?_⟩
 have hl:=h.len
 have hj:j<n:=by
  rcases Nat.lt_or_ge j n with hj | hj
  ·exact hj
  ·rw [List.getElem?_eq_none (by simp;omega)] at hv;cases hv
 have e2:v=.int k (gi xs j):=by
  rw [List.getElem?_map,List.getElem?_eq_getElem (by omega)] at hv
  injection hv with hv
  rw [← hv,gi_at (by omega)];rfl
 rw [e2,← hc j hj,Addr.add_lit]
theorem iv_one (k:IntKind) (xs:List Int):∀ v∈xs.map (iv k),v.oneCell'=true:=by
 intro v hv
 obtain ⟨x,_,rfl⟩:=List.mem_map.1 hv
 rfl
theorem IS.of_own {base:Nat} {e:TypeId} {v:Value} (h:w.ownsRow base e 1 v n (xs.map (iv k))):∃ A c,v=.slice A n c∧IS k base w A n c xs:=by
 have hl:xs.length=n:=by have:=h.1;simpa using this
 have h2:=h.2
 rcases h2 with ⟨rfl,rfl⟩ | ⟨g,cap,cur,rfl,hb,hh,hnc,hcm,hcs,ht⟩
 ·obtain rfl:xs=[]:=List.eq_nil_of_length_eq_zero hl
  exact ⟨none,0,rfl,IS.none_ k base w⟩
 ·refine ⟨_,cap,rfl,hl,hnc,hcm,(fun h=>by cases h),fun hn=>⟨g,0,rfl,hb,lt_of_block hh,fun j hj=>?_⟩⟩
  rw [Nat.zero_add,h.cellAt j (by omega),List.getElem?_map,List.getElem?_eq_getElem (by omega),gi_at (by omega)]
  rfl
theorem gone {g:Nat} {x:Int} (hc:w.cell? ⟨g,0,none⟩=some (.int k x)) (hm:1≤maxLen):IS k 0 w (some ⟨g,0,none⟩) 1 1 [x] :=
 ⟨rfl,Nat.le_refl _,hm,(fun h=>by cases h),fun _=>⟨g,0,rfl,Nat.zero_le _,World.block_lt_of_cell? w ⟨g,0,none⟩ hc,fun j hj=>by
  obtain rfl:j=0:=by omega
  exact hc⟩⟩
end
section
variable {P:Program} {k:IntKind} {t e:TypeId} {i:TypeInfo}
/-- append onto a row of the call's own. -/
theorem run_append_onto {w:World} {base lo:Nat} {v:Value} {m:Nat} {ys:List Int} {A:Option Addr} {n c:Nat} {xs:List Int} (ht:P.underlying t=some (.slice e)) (hi:P.info? e=some i) (hz:i.zero=some (.int k 0)) (hsize:i.size=1) (hby:i.bytes=8)
  (hown:w.ownsRow base e 1 v m (ys.map (iv k))) (h:IS k lo w A n c xs) (hn:m+n≤65536) (hbase:base≤w.heap.size) (ty:TypeId) :
  ∃ A' c' w',(Builtin.append_ #[t,t] ty #[v,.slice A n c]).run P w=.ok (.slice A' (m+n) c') w'∧w'.ownsRow base e 1 (.slice A' (m+n) c') (m+n) ((ys ++ xs).map (iv k))∧w.grownBy w' v.ownBlock∧((Value.slice A' (m+n) c').ownBlock=v.ownBlock∨(Value.slice A' (m+n) c').ownBlock=some w.heap.size):=by
 have hl:=h.len
 rcases A with _ | ad
 ·obtain rfl:=h.nil_ rfl
  obtain rfl:n=0:=by have:=h.cap;omega
  obtain rfl:xs=[]:=List.eq_nil_of_length_eq_zero hl
  have hr:=run_append_owned_none (P:=P) w base t ty e i 1 ht hi v m (ys.map (iv k)) hown
  obtain ⟨A',c',rfl,_⟩:=IS.of_own hown
  exact ⟨A',c',w,hr,by simpa using hown,World.grownBy.refl w _,.inl rfl⟩
 ·have hcells:∀ j u,(xs.map (iv k))[j]? = some u→w.cell? (ad.add j)=some u:=by
   intro j u hu
   rcases Nat.eq_zero_or_pos n with h0 | h0
   ·subst h0
    obtain rfl:xs=[]:=List.eq_nil_of_length_eq_zero hl
    simp at hu
   ·obtain ⟨ad',e',hc⟩:=h.src h0
    injection e' with e'
    subst e'
    exact hc j u hu
  obtain ⟨v',w',hrun,h2,h3,_,h5⟩:=run_append_own_at (P:=P) w base t ty e i _ 1 8 ht hi hz hsize hby rfl (by omega) v m (ys.map (iv k)) hown ad n c (xs.map (iv k)) (by simp [hl]) hcells (iv_one k xs) (by unfold maxLen;omega) (by omega) hbase
  rw [← List.map_append] at h2
  obtain ⟨A',c',rfl,_⟩:=IS.of_own h2
  exact ⟨A',c',w',hrun,h2,h3,h5⟩
end
theorem wpList_append_run {P:Program} {w:World} {ops:Array Oper} {rest:List Oper} {o:Oper} {a:Act} {Q:Exit→Act→World→Prop} (hgd:o.guard=none) (s x:Operand) (t:TypeId)
  (ho:o.op=.call { callee:=.builtin .append,args:=#[s,x],argTypes:=#[t,t] }) (u v v':Value) (w':World) (hs:a.eval s=u) (hx:a.eval x=v)
  (hrun:(Builtin.append_ #[t,t] o.type #[u,v]).run P w=.ok v' w') (h:wpList P ops Q rest (a.put o.dst v') w'):wpList P ops Q (o :: rest) a w:=by
 refine wpList_plain hgd fun K hK=>?_
 unfold Oper.wp
 simp [execOp,ho,resolve,invoke,builtin,hs,hx,hrun,Result.andThen]
 exact hK _ _ h
theorem ret_int {k:IntKind} {a b:Int} (h:a=b):Ending.returned (.int k a)=.returned (.int k b):=by rw [h]
theorem ret_bool {a b:Bool} (h:a=b):Ending.returned (.bool a)=.returned (.bool b):=by rw [h]
theorem wf_u8 {a:Int} (h:(Lit.int .u8 a).wf=true):∃ X:Nat,a=X∧X<256:=by
 have h':0≤a∧a≤255:=by simpa [Lit.wf,IntKind.min,IntKind.max,IntKind.bits,IntKind.signed] using h
 exact ⟨a.toNat,by omega,by omega⟩
theorem Below.then_ {w a b:World} (K:Below w.heap.size w a) (K':Below a.heap.size a b):Below w.heap.size w b:=K.trans (K'.mono K.size)
theorem below_alloc (w:World) (o:Obj):Below w.heap.size w (w.alloc o):=(Below.refl _ _).alloc (Nat.le_refl _) o
theorem below_drewN {B:Nat} {a w:World} (h:Below B a w) (n:Nat):Below B a (w.drewN n):=⟨h.os,h.tape,h.output,h.size,h.block⟩
theorem own_below {w w':World} {base:Nat} {e:TypeId} {size:Nat} {v:Value} {n:Nat} {xs:List Value} (h:w.ownsRow base e size v n xs) (K:Below w.heap.size w w'):w'.ownsRow base e size v n xs:=by
 refine ⟨h.1,?_⟩
 rcases h.2 with h2 | ⟨g,cap,cur,hv,hg,hh,r⟩
 ·exact .inl h2
 ·exact .inr ⟨g,cap,cur,hv,hg,(K.block g (lt_of_block hh)).trans hh,r⟩
theorem own_ge {w:World} {base:Nat} {e:TypeId} {size:Nat} {v:Value} {n:Nat} {xs:List Value} (h:w.ownsRow base e size v n xs):∀ g,v.ownBlock=some g→base≤g:=by
 intro g0 hg0
 rcases h.2 with ⟨rfl,_⟩ | ⟨g,cap,cur,rfl,hg,_⟩
 ·cases hg0
 ·have:g=g0:=by simpa [Value.ownBlock] using hg0
  omega
theorem cell_new (w:World) (v:Value) (t:TypeId):(w.alloc (.cells #[v] t)).cell? ⟨w.heap.size,0,none⟩=some v:=cell_of_row _ _ 0 _ _ (0,0) (heap_alloc_new w (.cells #[v] t))
/-- What the shell of a law tells of a slice of integers that came in. -/
def IsRow (k:IntKind) (w:World) (a:Option Addr) (len cap:Nat) (zs:List Int):Prop :=
 (a=none∧len=0∧cap=0∧zs=[]) ∨
 ∃ x,a=some x∧len≤cap∧cap≤maxLen∧zs.length=cap∧(∀ i,i<zs.length→w.cell? (x.add i)=some (.int k (zs.getD i 0)))∧∀ n∈zs,(Lit.int k n).wf=true
theorem IS.of_row {k:IntKind} {w:World} {a:Option Addr} {len cap:Nat} {zs:List Int} (h:IsRow k w a len cap zs):∃ xs,IS k 0 w a len cap xs∧∀ x∈xs,(Lit.int k x).wf=true:=by
 rcases h with ⟨rfl,rfl,rfl,rfl⟩ | ⟨x,rfl,hl,hm,hz,hcell,hwz⟩
 ·exact ⟨[],IS.none_ k 0 w,by simp⟩
 ·have hg:∀ j,j<len→gi (zs.take len) j=zs.getD j 0:=fun j hj=>by
   unfold gi
   simp [List.getD_eq_getElem?_getD,hj]
  refine ⟨zs.take len,⟨by simp;omega,hl,hm,(fun h=>by cases h),fun hn=>?_⟩,fun x hx=>hwz x (List.mem_of_mem_take hx)⟩
  obtain ⟨b,o,sp⟩:=x
  have h0:=hcell 0 (by omega)
  have hsp:sp=none:=by simpa [Addr.add] using World.cell?_spot h0
  subst hsp
  refine ⟨b,o,rfl,Nat.zero_le _,World.block_lt_of_cell? w ⟨b,o,none⟩ (by simpa [Addr.add] using h0),fun j hj=>?_⟩
  have hj':=hcell j (by omega)
  rw [hg j hj]
  by_cases hj0:j=0
  ·subst hj0;simpa [Addr.add] using hj'
  ·simpa [Addr.add,hj0] using hj'
end Go.Proofs.YtfhefofkhmkcnaaGreatDoor

/-
 Blocks of memory that are known whole (the cells of a struct): what each cell holds,and that it is kept.
-/
namespace Go.Proofs.YtfhefofkhmkcnaaGreatDoor
set_option maxRecDepth 100000
set_option maxRecDepth 100000
open Go.RowKit
set_option maxHeartbeats 8000000
def Bk (w:World) (g:Nat) (t:TypeId) (l:Array Value):Prop:=w.heap[g]? = some (.cells l t (0,0))
section
variable {w w':World} {g:Nat} {t:TypeId} {l:Array Value}
theorem Bk.lt (h:Bk w g t l):g<w.heap.size:=lt_of_block h
theorem Bk.at_ (h:Bk w g t l) (i:Nat) {v:Value} (e:l[i]? = some v):w.cell? ⟨g,i,none⟩=some v:=(cell_of_row w g i _ _ (0,0) h).trans e
theorem Bk.fz (h:Bk w g t l) (i:Nat):w.frozen? ⟨g,i,none⟩=false:=by
 unfold Bk at h
 simp [World.frozen?,h]
theorem Bk.below (h:Bk w g t l) (K:Below w.heap.size w w'):Bk w' g t l:=(K.block g h.lt).trans h
theorem Bk.new (w:World) (l:Array Value) (t:TypeId):Bk (w.alloc (.cells l t)) w.heap.size t l:=heap_alloc_new w _
theorem Bk.alloc (h:Bk w g t l) (o:Obj):Bk (w.alloc o) g t l:=h.below (below_alloc w o)
theorem Bk.far (h:Bk w g t l) {p:Addr} (hp:g≠p.block) (u:Value):Bk (w.setCell p u) g t l:=(Below.heap_setCell w p u g hp).trans h
end
end Go.Proofs.YtfhefofkhmkcnaaGreatDoor
