/-
  What the functions that these laws call answer, and what follows of it; conditions: those that each theorem names. In this file: FnMap, OpFact, RowLoc, HnOn, HnDone, HnGoes, ShardCalls, HintGuard, HintOpen, HintSame, OpElse, SeekMath, HnStep, ClaimMath, ClaimLook0, ClaimClaim, ClaimStep.
-/
import Derived.Test.YtfhefofkhmkcnaaGreatDoorPl10
import Derived.Maps.OwnOps
import Derived.Maps.OwnSet
/-
 A map of function values made by the call,in memory of its own;what a look-up tells. No condition on the program.
-/
namespace Go.Proofs.YtfhefofkhmkcnaaGreatDoor
set_option maxRecDepth 100000
set_option maxRecDepth 100000
open Go.RowKit
set_option maxHeartbeats 8000000
set_option linter.unusedVariables false
/-- How a function's value reads: by its number. -/
def fnElem:Value→Option (DataW Unit×List MemPlace)
 | .func (.func k) a b=>if a.size=0∧b.size=0 then some (.lit (.int .u64 (k:Nat)),[]) else none
 | .nilFunc=>some (.lit (.bool false),[])
 | _=>none
theorem fnElem_mk (k:Nat):fnElem (.func (.func k) #[] #[])=some (.lit (.int .u64 (k:Nat)),[]):=by simp [fnElem]
theorem fnElem_inv {v:Value} {k:Nat} {ps:List MemPlace} (h:fnElem v=some (.lit (.int .u64 (k:Nat)),ps)):v=.func (.func k) #[] #[]:=by
 unfold fnElem at h
 split at h
 ·split at h
  ·rename_i g
   simp only [Option.some.injEq,Prod.mk.injEq,DataW.lit.injEq,Lit.int.injEq,true_and] at h
   obtain ⟨h1,_⟩:=h
   have h2:=Array.eq_empty_of_size_eq_zero g.1
   have h3:=Array.eq_empty_of_size_eq_zero g.2
   have h4:_=k:=Int.ofNat.inj h1
   subst h2 h3 h4
   rfl
  ·cases h
 ·simp at h
 ·cases h
theorem ikey_law:Maps.Keyed Tryz.prog 3:=Maps.int_keyed Tryz.underlying3
theorem ikey {k:Int} (h:(Lit.int .i64 k).wf=true):keyOf Tryz.prog 3 (.int .i64 k)=some (.int .i64 k):=Maps.keyOf_int_mk Tryz.underlying3 h
theorem kkey (k:Int) (h:(Lit.int .i64 k).wf=true):WideAt.IsKeyLit (.int .i64 k):=ikey_law.key (ikey h)
/-- The map as read: keys and functions, the newest first. -/
def fD:List (Int×Nat)→DataW Unit
 | []=>.map []
 | p :: l=>(fD l).put (.int .i64 p.1) (.lit (.int .u64 (p.2:Nat)))
def fget:List (Int×Nat)→Int→Option Nat
 | [],_=>none
 | p :: l,k=>if p.1=k then some p.2 else fget l k
theorem fD_map:∀ l:List (Int×Nat),Maps.IsMap (fD l)
 | []=>Maps.isMap_empty
 | p :: l=>(fD_map l).put _ _
theorem fD_at {k:Int} (hk:(Lit.int .i64 k).wf=true):∀ {l:List (Int×Nat)} {f:Nat},fget l k=some f→(fD l).atKey (.int .i64 k) (.lit (.bool false))=.lit (.int .u64 (f:Nat))∧Maps.has (fD l) (.int .i64 k)=true
 | [],f,h=>by cases h
 | p :: l,f,h=>by
  unfold fget at h
  by_cases e:p.1=k
  ·rw [if_pos e] at h
   injection h with h
   unfold fD
   rw [e,h]
   exact ⟨Maps.atKey_put_same (fD_map l) (kkey k hk) _ _,Maps.has_put_same (fD_map l) (kkey k hk) _⟩
  ·rw [if_neg e] at h
   have hne:(Lit.int .i64 k)≠(Lit.int .i64 p.1):=fun h=>e (by injection h with _ h;exact h.symm)
   unfold fD
   rw [Maps.atKey_put_other hne,Maps.has_put_other hne]
   exact fD_at hk h
theorem fD_no {k:Int}:∀ {l:List (Int×Nat)},fget l k=none→Maps.has (fD l) (.int .i64 k)=false
 | [],_=>rfl
 | p :: l,h=>by
  unfold fget at h
  by_cases e:p.1=k
  ·rw [if_pos e] at h;cases h
  ·rw [if_neg e] at h
   have hne:(Lit.int .i64 k)≠(Lit.int .i64 p.1):=fun h=>e (by injection h with _ h;exact h.symm)
   unfold fD
   rw [Maps.has_put_other hne]
   exact fD_no h
/-- The map in memory. -/
def FMap (w:World) (gm:Nat) (l:List (Int×Nat)):Prop:=w.ownsMap Tryz.prog 3 fnElem gm l.length (fD l)
def mF (gm:Nat) (l:List (Int×Nat)):Fct:=⟨fun w=>FMap w gm l,fun b=>b=gm⟩
theorem mF_ok (gm:Nat) (l:List (Int×Nat)):(mF gm l).Ok :=
 ⟨fun w w' h hs hk=>by
  have hlt:=World.ownsMap.lt h
  obtain ⟨es,clock,hb,F,hs',hD⟩:=h
  exact ⟨es,clock,(hk gm hlt rfl).trans hb,F,hs',hD⟩,fun w b h e=>by subst e;exact World.ownsMap.lt h⟩
theorem Loc.map_new {w0 w:World} {bs:List Bl} {fs:List Fct} (L:Loc w0 w bs fs) {gm lo:Nat} {l:List (Int×Nat)} (hl:∀ i b,nth bs i=some b→b.1<lo) (hg:lo≤gm) (h:FMap w gm l):Loc w0 w bs (mF gm l :: fs) :=
 L.add _ h (mF_ok _ _) fun i b e e'=>by have:=hl i b e;have:b.1=gm:=e';omega
theorem FMap.look {w:World} {gm:Nat} {l:List (Int×Nat)} (h:FMap w gm l) {mt et:TypeId} (ht:Tryz.prog.underlying mt=some (.map 3 et)) (hz:(zeroValue et).run Tryz.prog w=.ok .nilFunc w) {k:Int} {f:Nat} (hk:(Lit.int .i64 k).wf=true) (e:fget l k=some f) :
  (Instr.lookup mt (.map (some gm)) (.int .i64 k) true).run Tryz.prog w=.ok (.tuple #[.func (.func f) #[] #[],.bool true]) w:=by
 obtain ⟨v,ps,hrun,hv⟩:=World.ownsMap.look_ok h ikey_law ht hz (zd:=.lit (.bool false)) (zp:=[]) rfl (ikey hk)
 rw [(fD_at hk e).1] at hv
 rw [hrun,fnElem_inv hv,(fD_at hk e).2]
theorem FMap.put {w:World} {gm:Nat} {l:List (Int×Nat)} (h:FMap w gm l) {mt et:TypeId} (ht:Tryz.prog.underlying mt=some (.map 3 et)) (hn:l.length<64) (k:Int) (f:Nat) (hk:(Lit.int .i64 k).wf=true) :
  ∃ w',(Instr.mapUpdate mt (.map (some gm)) (.int .i64 k) (.func (.func f) #[] #[])).run Tryz.prog w=.ok () w'∧FMap w' gm ((k,f) :: l)∧w.grownBy w' (some gm) :=
 World.ownsMap.update h ikey_law ht (by unfold maxLen;omega) (ikey hk) (fnElem_mk f)
end Go.Proofs.YtfhefofkhmkcnaaGreatDoor

/-
 An operation's four lists as one fact of what a call knows;where the lists of what is answered lie. No condition on the program.
-/
namespace Go.Proofs.YtfhefofkhmkcnaaGreatDoor
set_option maxRecDepth 100000
set_option maxRecDepth 100000
open Go.RowKit
set_option maxHeartbeats 8000000
set_option linter.unusedVariables false
/-- A block that no list of the operation lies in. -/
def HAp (k:Nat) (h:Hd):Prop:=(0<h.n0→Apart k h.A0)∧(0<h.n1→Apart k h.A1)∧(0<h.n2→Apart k h.A2)∧(0<h.n3→Apart k h.A3)
def oF (h:Hd) (l:Ls):Fct:=⟨fun w=>Lists 0 w h l,fun b=>¬ HAp b h⟩
/-- The lists of what is answered lie in those that came in, or in new memory. -/
def SAo (h h':Hd) (w:World):Prop:=∀ k,k<w.heap.size→HAp k h→HAp k h'
section
variable {w w' w0:World} {lo:Nat} {h h':Hd} {l:Ls} {bs:List Bl} {fs:List Fct}
theorem is_high {k:IntKind} {A:Option Addr} {n c b:Nat} {xs:List Int} (h:IS k lo w A n c xs) (hb:w.heap.size≤b) (hn:0<n):Apart b A:=fun b' o e hb'=>by
 obtain ⟨b2,o2,e2,_,hl,_⟩:=h.cells hn
 rw [e] at e2;injection e2 with e2;injection e2 with e3 e4;omega
theorem is_low {k:IntKind} {A:Option Addr} {n c b:Nat} {xs:List Int} (h:IS k lo w A n c xs) (hb:b<lo) (hn:0<n):Apart b A:=fun b' o e hb'=>by
 obtain ⟨b2,o2,e2,hl,_,_⟩:=h.cells hn
 rw [e] at e2;injection e2 with e2;injection e2 with e3 e4;omega
theorem oF_ok:(oF h l).Ok :=
 ⟨fun w w' H hs hk=>⟨IS.keep H.i0 hs fun b o hn e hb=>hk b hb fun hA=>hA.1 hn b o e rfl,IS.keep H.i1 hs fun b o hn e hb=>hk b hb fun hA=>hA.2.1 hn b o e rfl,IS.keep H.i2 hs fun b o hn e hb=>hk b hb fun hA=>hA.2.2.1 hn b o e rfl,IS.keep H.i3 hs fun b o hn e hb=>hk b hb fun hA=>hA.2.2.2 hn b o e rfl⟩,
  fun w b H hf=>by
  rcases Nat.lt_or_ge b w.heap.size with hb | hb
  ·exact hb
  ·exact absurd ⟨is_high H.i0 hb,is_high H.i1 hb,is_high H.i2 hb,is_high H.i3 hb⟩ hf⟩
theorem lists_low (H:Lists lo w h l) {b:Nat} (hb:b<lo):HAp b h:=⟨is_low H.i0 hb,is_low H.i1 hb,is_low H.i2 hb,is_low H.i3 hb⟩
theorem Loc.of_new (L:Loc w0 w bs fs) (hl:∀ i b,nth bs i=some b→b.1<lo) (H:Lists lo w h l):Loc w0 w bs (oF h l :: fs) :=
 L.add _ (H.lower_ (Nat.zero_le _)) oF_ok fun i b e hn=>hn (lists_low H (hl i b e))
theorem Loc.of_ (L:Loc w0 w bs fs) (k:Nat) (e:nth fs k=some (oF h l)):Lists 0 w h l:=L.get k e
theorem Lists.hap (H:Lists lo w0 h l) (L:Loc w0 w bs fs):∀ i b,nth bs i=some b→HAp b.1 h:=fun i b e =>
 ⟨fun hn=>IS.apart0 H.i0 hn L i b e,fun hn=>IS.apart0 H.i1 hn L i b e,fun hn=>IS.apart0 H.i2 hn L i b e,fun hn=>IS.apart0 H.i3 hn L i b e⟩
theorem sao_new {w1:World} (H:Lists lo w1 h' l) (hlo:w.heap.size≤lo):SAo h h' w:=fun k hk _=>lists_low H (Nat.lt_of_lt_of_le hk hlo)
theorem Lists.emp_ (H:Lists lo w h l):h.n0=l.rqs.length∧h.n1=l.ads.length∧h.n2=l.ers.length∧h.n3=l.ses.length:=⟨H.i0.len.symm,H.i1.len.symm,H.i2.len.symm,H.i3.len.symm⟩
end
end Go.Proofs.YtfhefofkhmkcnaaGreatDoor

/-
 A row of the call's own among what a call knows of its memory (Loc): known with its room,so that one may be appended;what does not lie in it stays. Conditions: at most 65536 numbers.
-/
namespace Go.Proofs.YtfhefofkhmkcnaaGreatDoor
set_option maxRecDepth 100000
set_option maxRecDepth 100000
open Go.RowKit
set_option maxHeartbeats 8000000
set_option linter.unusedVariables false
/-- A row of the call's own: a value that reads as these numbers, in blocks from base on. -/
def Ri (k:IntKind) (t:TypeId) (w:World) (base:Nat) (v:Value) (n:Nat) (xs:List Int):Prop:=w.ownsRow base t 1 v n (xs.map (iv k))
section
variable {k k':IntKind} {t:TypeId} {w w' w1:World} {base n c lo lo' n' c':Nat} {A A':Option Addr} {v:Value} {xs xs':List Int}
theorem Ri.nil (w:World) (base:Nat):Ri k t w base (.slice none 0 0) 0 []:=World.ownsRow_nil w base t 1
theorem Ri.below (h:Ri k t w base v n xs) (K:Below w.heap.size w w'):Ri k t w' base v n xs:=own_below h K
theorem Ri.is (h:Ri k t w base (.slice A n c) n xs):IS k base w A n c xs:=by
 obtain ⟨A',c',e,I⟩:=IS.of_own h
 injection e with e1 e2 e3
 subst e1;subst e3
 exact I
theorem Ri.len (h:Ri k t w base v n xs):xs.length=n:=by have:=h.1;simpa using this
theorem Ri.lt_ (h:Ri k t w base v n xs):∀ g,v.ownBlock=some g→base≤g∧g<w.heap.size:=World.ownsRow.lt h
theorem Ri.lower (h:Ri k t w base v n xs) (hl:lo≤base):Ri k t w lo v n xs:=by
 refine ⟨h.1,?_⟩
 rcases h.2 with h2 | ⟨g,cap,cur,hv,hg,r⟩
 ·exact .inl h2
 ·exact .inr ⟨g,cap,cur,hv,Nat.le_trans hl hg,r⟩
theorem Ri.keep (h:Ri k t w base v n xs) (hk:∀ b,v.ownBlock=some b→b<w.heap.size→w'.heap[b]? = w.heap[b]?):Ri k t w' base v n xs:=by
 refine ⟨h.1,?_⟩
 rcases h.2 with h2 | ⟨g,cap,cur,hv,hg,hh,r⟩
 ·exact .inl h2
 ·exact .inr ⟨g,cap,cur,hv,hg,(hk g (by rw [hv];rfl) (lt_of_block hh)).trans hh,r⟩
def rF (k:IntKind) (t:TypeId) (base:Nat) (A:Option Addr) (n c:Nat) (xs:List Int):Fct:=⟨fun w=>Ri k t w base (.slice A n c) n xs,fun b=>(Value.slice A n c).ownBlock=some b⟩
theorem rF_ok:(rF k t base A n c xs).Ok:=⟨fun w w' h hs hk=>Ri.keep h fun b e hb=>hk b hb e,fun w b h e=>(Ri.lt_ h b e).2⟩
/-- The row doesn't lie where the fact does. -/
def SepF (v:Value) (f:Fct):Prop:=∀ b,v.ownBlock=some b→¬ f.F b
def SepL (v:Value) (fs:List Fct):Prop:=∀ f,f∈fs→SepF v f
theorem SepL.nil:SepL v []:=fun f h=>by cases h
theorem SepL.cons {f:Fct} {fs:List Fct} (h:SepF v f) (hs:SepL v fs):SepL v (f :: fs):=fun g hg=>by
 rcases List.mem_cons.1 hg with rfl | hg
 ·exact h
 ·exact hs g hg
theorem SepF.z:SepF v (zF lo):=fun _ _ h=>h
theorem Ri.sep_old (h:Ri k t w base v n xs) (I:IS k' lo w1 A n' c xs') (hw:w1.heap.size≤base):SepF v (iF k' lo' A n' c xs'):=fun b hb hf=>by
 obtain ⟨hn,o,e⟩:=hf
 obtain ⟨b',o',e',_,hl,_⟩:=I.cells hn
 have:=(h.lt_ b hb).1
 rw [e] at e';injection e' with e';injection e' with e1 e2;omega
theorem Ri.sep_new (h:Ri k t w base v n xs) (I:IS k' lo w1 A n' c xs') (hw:w.heap.size≤lo):SepF v (iF k' lo' A n' c xs'):=fun b hb hf=>by
 obtain ⟨hn,o,e⟩:=hf
 obtain ⟨b',o',e',hl,_,_⟩:=I.cells hn
 have:=(h.lt_ b hb).2
 rw [e] at e';injection e' with e';injection e' with e1 e2;omega
theorem Ri.sep_cells {g:Nat} {ys:List Nat} (h:Ri k t w base v n xs) (hw:w.heap.size≤g):SepF v (uF (some ⟨g,0,none⟩) n' c ys):=fun b hb hf=>by
 obtain ⟨hn,o,e⟩:=hf
 have:=(h.lt_ b hb).2
 injection e with e;injection e with e1 e2;omega
end
section
variable {w0 w:World} {bs:List Bl} {fs:List Fct} {k:IntKind} {t e:TypeId} {base n c:Nat} {A:Option Addr} {xs:List Int}
theorem Loc.ri_new (L:Loc w0 w bs fs) (hl:∀ i b,nth bs i=some b→b.1<base) (hR:Ri k t w base (.slice A n c) n xs):Loc w0 w bs (rF k t base A n c xs :: fs) :=
 L.add _ hR rF_ok fun i b e hf=>by
  have:=(hR.lt_ _ hf).1
  have:=hl i b e
  omega
theorem Loc.ri_ (L:Loc w0 w bs fs) (j:Nat) (e:nth fs j=some (rF k t base A n c xs)):Ri k t w base (.slice A n c) n xs:=L.get j e
/-- One number, just laid, appended to a row of the call's own. -/
theorem Loc.app1 {P:Program} {i:TypeInfo} {x:Int} (L:Loc w0 w bs (rF k e base A n c xs :: fs)) (hsep:SepL (.slice A n c) fs) (hb:w0.heap.size≤base) (hn:n+1≤65536) (hbw:base≤w.heap.size)
  (ht:P.underlying t=some (.slice e)) (hi:P.info? e=some i) (hz:i.zero=some (.int k 0)) (hsize:i.size=1) (hby:i.bytes=8) (ty:TypeId) :
  ∃ A' c' w',(Builtin.append_ #[t,t] ty #[.slice A n c,.slice (some ⟨w.heap.size,0,none⟩) 1 1]).run P (w.alloc (.cells #[.int k x] e))=.ok (.slice A' (n+1) c') w'∧Loc w0 w' bs (rF k e base A' (n+1) c' (xs ++ [x]) :: fs):=by
 have hR:Ri k e w base (.slice A n c) n xs:=L.get 0 rfl
 have hD:=(L.fc _ (List.mem_cons_self ..)).2.2
 have K0:=below_alloc w (.cells #[.int k x] e)
 have hs:=gone (k:=k) (w:=w.alloc (.cells #[.int k x] e)) (x:=x) (g:=w.heap.size) (cell_new w _ _) (by unfold maxLen;omega)
 obtain ⟨A',c',w',hrun,hown,hg,hob⟩:=run_append_onto ht hi hz hsize hby (hR.below K0) hs hn (Nat.le_trans hbw K0.size) ty
 have hstay:∀ b,b<w.heap.size→(Value.slice A n c).ownBlock≠some b→w'.heap[b]? = w.heap[b]?:=fun b hb' hne =>
  (hg.block b (Nat.lt_of_lt_of_le hb' K0.size) (fun e=>hne e.symm)).trans (K0.block b hb')
 refine ⟨A',c',w',hrun,?_,fun i b eb=>⟨?_,(L.bk i b eb).2⟩,L.ne,fun f hf=>?_⟩
 ·exact (Below.then_ L.K K0).grown hg (Nat.le_trans L.K.size K0.size) (fun j hj=>Nat.le_trans hb (hR.lt_ j hj).1)
 ·exact (hstay b.1 (L.lts i b eb) (hD i b eb)).trans (L.bk i b eb).1
 ·rcases List.mem_cons.1 hf with rfl | hf
  ·refine ⟨hown,rF_ok,fun i b eb hF=>?_⟩
   have hlt:=L.lts i b eb
   rcases hob with h1 | h1
   ·exact hD i b eb (h1.symm.trans hF)
   ·have h2:=h1.symm.trans hF
    injection h2 with h2
    have:=K0.size
    omega
  ·obtain ⟨p,ok,d⟩:=L.fc f (List.mem_cons_of_mem _ hf)
   exact ⟨ok.keep _ _ p (Nat.le_trans K0.size hg.size) (fun b hb' hF=>hstay b hb' fun e=>hsep f hf b e hF),ok,d⟩
theorem lists_row {lo n1 c1 n3 c3:Nat} {A0 A1 A3:Option Addr} {n0 c0:Nat} {rqs ads ses:List Int} (h0:IS .u32 lo w A0 n0 c0 rqs) (h1:IS .u32 lo w A1 n1 c1 ads) (h2:Ri .i64 t w lo (.slice A n c) n xs) (h3:IS .u64 lo w A3 n3 c3 ses):Lists lo w ⟨A0,n0,c0,A1,n1,c1,A,n,c,A3,n3,c3⟩ ⟨rqs,ads,xs,ses⟩:=⟨h0,h1,h2.is,h3⟩
/-- A call's cells: in new memory, or those that were handed in. -/
theorem Loc.us_new {w1:World} {B B0:Option Addr} {m d d0:Nat} {ys ys0:List Nat} (h:Loc w0 w bs fs) (hs:∀ g,g∈bs.map (·.1)→g<w1.heap.size) (hA:∀ k,k<w1.heap.size→Apart k B0→Apart k B) (hU0:US w0 B0 m d0 ys0) (hm0:0<m) (hU:US w B m d ys):Loc w0 w bs (uF B m d ys :: fs) :=
 h.us_av (fun i b e=>hA b.1 (hs b.1 (nth_map e)) (hU0.apart0 hm0 h i b e)) hU
end
/-- What slices.Clone answers, as a row of the call's own. -/
theorem run_clone_row {P:Program} {k:IntKind} {t e:TypeId} {i:TypeInfo} {w:World} {lo:Nat} {ad:Addr} {n c:Nat} {xs:List Int} (ht:P.underlying t=some (.slice e)) (hi:P.info? e=some i) (hz:i.zero=some (.int k 0)) (hsize:i.size=1) (hby:i.bytes≤8)
  (h:IS k lo w (some ad) n c xs) (hn:n≤65536) (ty:TypeId) :
  ∃ A' c' w',(Builtin.append_ #[t,t] ty #[.slice (some ⟨w.heap.size,0,none⟩) 0 0,.slice (some ad) n c]).run P (w.alloc (.cells #[] e))=.ok (.slice A' n c') w'∧Ri k e w' w.heap.size (.slice A' n c') n xs∧Below w.heap.size w w':=by
 have hl:=h.len
 have K:=below_alloc w (.cells #[] e)
 have h':=h.below K
 have hcells:∀ j u,(xs.map (iv k))[j]? = some u→(w.alloc (.cells #[] e)).cell? (ad.add j)=some u:=by
  intro j u hu
  rcases Nat.eq_zero_or_pos n with h0 | h0
  ·subst h0
   obtain rfl:xs=[]:=List.eq_nil_of_length_eq_zero hl
   simp at hu
  ·obtain ⟨ad',e',hc⟩:=h'.src h0
   injection e' with e'
   subst e'
   exact hc j u hu
 have hown:=World.ownsRow_lit (base:=w.heap.size) (size:=1) (e:=e) w #[] 0 (Nat.le_refl _) (by unfold maxLen;omega) rfl
 have hb:n*i.bytes≤140737488355328:=Nat.le_trans (Nat.mul_le_mul hn hby) (by omega)
 obtain ⟨v',w',hrun,h2,h3,_⟩:=run_append_own_at (P:=P) (w.alloc (.cells #[] e)) w.heap.size t ty e i _ 1 i.bytes ht hi hz hsize rfl rfl (by omega) _ 0 [] hown ad n c (xs.map (iv k)) (by simp [hl]) hcells (iv_one k xs) (by unfold maxLen;omega) (by simpa using hb) (by simp)
 rw [List.nil_append,Nat.zero_add] at h2
 have h2':=h2
 obtain ⟨A',c',rfl,hI⟩:=IS.of_own h2
 exact ⟨A',c',w',hrun,h2',K.grown h3 (by simp) (by intro j hj;cases hj;exact Nat.le_refl _)⟩
def RetR (k:IntKind) (t:TypeId) (n:Nat) (xs:List Int) (w:World) (e:Ending) (w':World):Prop:=∃ A c,e=.returned (.slice A n c)∧Ri k t w' w.heap.size (.slice A n c) n xs∧Below w.heap.size w w'
theorem cloneE_row {w:World} {lo:Nat} {A:Option Addr} {n c:Nat} {xs:List Int} (h:IS .i64 lo w A n c xs) (hn:n≤65536) :
  Calls Tryz.prog 73 #[.slice A n c] w (RetR .i64 37 n xs w):=by
 obtain ⟨i0,hi,hz0,hz1,hz2⟩:=info_parts cloneE_info
 have q:∀ (w:World) (a:Option Addr) (n c n' c':Nat),(binOp .eql 38 (.slice a n c) (.slice none n' c')).run Tryz.prog w=.ok (.bool a.isNone) w:=fun w a n c n' c'=>Lib.run_eql_slice_nil w _ _ a n c n' c' Tryz.underlying38
 rcases A with _ | ad
 ·obtain rfl:=h.nil_ rfl
  obtain rfl:n=0:=by have:=h.cap;omega
  obtain rfl:xs=[]:=List.eq_nil_of_length_eq_zero h.len
  go_enter Tryz.func73,Tryz.ntmps73
  go_wp2
  go_ret
  exact ⟨_,_,rfl,Ri.nil _ _,Below.refl _ _⟩
 ·have hr:=fun ty=>run_clone_row (P:=Tryz.prog) Tryz.underlying38 hi hz0 hz1 (by omega) h hn ty
  clear hz0 hz1 hz2
  go_enter Tryz.func73,Tryz.ntmps73
  obtain ⟨A',c',w',hrun,hI,K⟩:=hr 38
  go_wp2_with (at_builtin;refine wpList_append_run rfl (.tmp 5) (.tmp 6) _ rfl _ _ _ _ rfl rfl hrun ?_)
  go_ret
  exact ⟨_,_,rfl,hI,K⟩
end Go.Proofs.YtfhefofkhmkcnaaGreatDoor

/-
 What hint.onward answers: an operation,gone on. Conditions: a block that may be;of a batch that goes on,the addresses are the block's.
-/
namespace Go.Proofs.YtfhefofkhmkcnaaGreatDoor
set_option maxRecDepth 100000
set_option maxRecDepth 100000
set_option maxRecDepth 100000
open Go.RowKit
set_option maxHeartbeats 8000000
set_option linter.unusedVariables false
section
variable {w:World} {lo lo2 a M:Nat} {p sh wo qu tr:Int} {A:Option Addr} {n c:Nat} {xs:List Int} {h:Hd} {s:Sc} {l:Ls}
theorem onward_end (hn:h.n0≤65536) (hf:fur h.n0 s=false) :
  Calls Tryz.prog 153 #[.agg #[.int .u32 a,.int .i64 p,.slice A n c,.int .i64 sh,.int .i64 wo,.int .i64 qu,.int .i64 tr],.agg (opv h s)] w (RetOp h (ende s) w):=by
 rcases s with ⟨kind,addr,err,aad,used,phase,shard,sought,leaf,bit,word,full,at_,tries,item,stamp⟩
 rcases h with ⟨A0,n0,c0,A1,n1,c1,A2,n2,c2,A3,n3,c3⟩
 dsimp only at *
 have T:=fun w=>Lib.hid (hf ▸ further_any (w:=w) (h:=⟨A0,n0,c0,A1,n1,c1,A2,n2,c2,A3,n3,c3⟩) (s:=⟨kind,addr,err,aad,used,0,shard,sought,leaf,bit,0,false,0,tries,item,stamp⟩) hn)
 clear hf
 go_enter Tryz.func153,Tryz.ntmps153
 go_upto_region 1 with (fail)
 have L:=Loc.start w
 generalize hal:World.alloc _ _=w1
 replace L:=L.a3 hal
 clear hal
 replace L:=L.is0 (opv hd0 sc0) rfl
 generalize w.heap.size+1+1=gR at L ⊢
 generalize w.heap.size+1=gO at L ⊢
 generalize w.heap.size=gH at L ⊢
 have O_8:=L.at_ 1 8 rfl (v:=.int .i64 phase) rfl
 have O_13:=L.at_ 1 13 rfl (v:=.int .u64 ((word:Nat):Int)) rfl
 have O_14:=L.at_ 1 14 rfl (v:=.bool full) rfl
 have O_16:=L.at_ 1 16 rfl (v:=.int .i64 at_) rfl
 have O_z:=L.lt 1 rfl
 have O_f8:=L.fz 1 8 rfl
 have O_f13:=L.fz 1 13 rfl
 have O_f14:=L.fz 1 14 rfl
 have O_f16:=L.fz 1 16 rfl
 go_upto_region 2 with fail
 clear O_8 O_13 O_14 O_16 O_z O_f8 O_f13 O_f14 O_f16
 replace L:=(((((L.set 1 8 rfl (.int .i64 0)).set 1 13 rfl (.int .u64 0)).set 1 14 rfl (.bool false)).set 1 16 rfl (.int .i64 0)).is 1 (opv ⟨A0,n0,c0,A1,n1,c1,A2,n2,c2,A3,n3,c3⟩ ⟨kind,addr,err,aad,used,0,shard,sought,leaf,bit,0,false,0,tries,item,stamp⟩) rfl)
 try dsimp only [nput] at L
 generalize ((((w1).setCell ⟨gO,8,none⟩ (.int .i64 0)).setCell ⟨gO,13,none⟩ (.int .u64 0)).setCell ⟨gO,14,none⟩ (.bool false)).setCell ⟨gO,16,none⟩ (.int .i64 0)=w2 at L ⊢
 go_wp2_with (refine lO 3 (L.bk_ 1 rfl) ?_)
 refine ((T _).out).mono ?_
 rintro e w3 ⟨rfl,K'⟩
 replace L:=L.over K'
 go_wp2_with (first | (refine lO 3 (L.bk_ 1 rfl) ?_) | (refine sO 4 14 (L.bk_ 0 rfl) rfl rfl ?_))
 generalize hal:World.setRow _ _ _=w4
 replace L:=L.rr0 hal
 clear hal
 refine eC Tryz.results153 (L.bk_ 0 rfl) ?_
 exact ⟨rfl,L.K⟩
theorem onward_more (ha:a<4294967296) (hM:Much a p M) (hn:h.n0≤65536) (hI:IS .u32 lo w h.A0 h.n0 h.c0 xs) (hin:InB a M h.n0 xs) (hf:fur h.n0 s=true) :
  Calls Tryz.prog 153 #[.agg #[.int .u32 a,.int .i64 p,.slice A n c,.int .i64 sh,.int .i64 wo,.int .i64 qu,.int .i64 tr],.agg (opv h s)] w (RetOp h (next_ a xs s) w):=by
 have hf0:s.kind=4∧0≤s.item∧s.item+1<(h.n0:Int):=by simpa [fur] using hf
 rcases s with ⟨kind,addr,err,aad,used,phase,shard,sought,leaf,bit,word,full,at_,tries,item,stamp⟩
 rcases h with ⟨A0,n0,c0,A1,n1,c1,A2,n2,c2,A3,n3,c3⟩
 dsimp only at *
 obtain ⟨j,rfl⟩:∃ j:Nat,item=j:=⟨item.toNat,by omega⟩
 obtain ⟨x,hx,hx1,hx2⟩:=hin (j+1) (by omega)
 obtain ⟨b,o,rfl,hb,hc⟩:=hI.get (j:=j+1) (by omega)
 rw [hx] at hc
 have hfit:=hM.fits ha
 have hmo:=hM.most
 obtain ⟨d,hd⟩:∃ d:Nat,d=x - a:=⟨_,rfl⟩
 obtain ⟨q,hq⟩:∃ q:Nat,q=d/32:=⟨_,rfl⟩
 obtain ⟨r,hr⟩:∃ r:Nat,r=d%32:=⟨_,rfl⟩
 have E:next_ a xs ⟨kind,addr,err,aad,used,phase,shard,sought,leaf,bit,word,full,at_,tries,(j:Int),stamp⟩=⟨kind,addr,err,aad,used,8,shard,sought,(q:Int),(r:Int),0,false,0,tries,((j:Int)+1),stamp⟩:=by unfold next_ ofs;simp only [Int.toNat_natCast,hx];rw [← hd,← hq,← hr]
 rw [E]
 clear E
 have T1:∀ w,Hid (Calls Tryz.prog 86 #[.agg #[.int .u32 a,.int .i64 p],.int .u32 x] w fun e w'=>e=.returned (.tuple #[.int .i64 (d:Nat),.int .i64 0])∧Below w.heap.size w w'):=fun w=>by rw [hd];exact offset_in x (by omega) ha hM hx1 hx2
 have T2:∀ w,Hid (Calls Tryz.prog 62 #[.int .i64 (d:Nat)] w fun e w'=>e=.returned (.tuple #[.int .i64 (q:Nat),.int .i64 (r:Nat)])∧w=w'):=fun w=>by rw [hq,hr];exact leaf_any d (by omega) w
 have T:=fun w=>Lib.hid (hf ▸ further_any (w:=w) (h:=⟨(some ⟨b,o,none⟩),n0,c0,A1,n1,c1,A2,n2,c2,A3,n3,c3⟩) (s:=⟨kind,addr,err,aad,used,0,shard,sought,leaf,bit,0,false,0,tries,(j:Int),stamp⟩) hn)
 have hj1:j+1<n0:=by omega
 have e1:IntKind.i64.wrap ((j:Int)+1)=(j:Int)+1:=IntWalk.i64_in _ (by omega)
 have e2:((j:Int)+1).toNat=j+1:=by omega
 have e3:(0:Int)≤(j:Int)+1:=by omega
 have e4:(j:Int)+1<(n0:Int):=by omega
 clear hf hin hd hq hr hx hx1 hx2 hI hf0 hfit hmo
 go_enter Tryz.func153,Tryz.ntmps153
 go_upto_region 1 with (fail)
 have L:=Loc.start w
 generalize hal:World.alloc _ _=w1
 replace L:=L.a3 hal
 clear hal
 replace L:=L.is0 (opv hd0 sc0) rfl
 generalize w.heap.size+1+1=gR at L ⊢
 generalize w.heap.size+1=gO at L ⊢
 generalize w.heap.size=gH at L ⊢
 have O_8:=L.at_ 1 8 rfl (v:=.int .i64 phase) rfl
 have O_13:=L.at_ 1 13 rfl (v:=.int .u64 ((word:Nat):Int)) rfl
 have O_14:=L.at_ 1 14 rfl (v:=.bool full) rfl
 have O_16:=L.at_ 1 16 rfl (v:=.int .i64 at_) rfl
 have O_z:=L.lt 1 rfl
 have O_f8:=L.fz 1 8 rfl
 have O_f13:=L.fz 1 13 rfl
 have O_f14:=L.fz 1 14 rfl
 have O_f16:=L.fz 1 16 rfl
 go_upto_region 2 with fail
 clear O_8 O_13 O_14 O_16 O_z O_f8 O_f13 O_f14 O_f16
 replace L:=(((((L.set 1 8 rfl (.int .i64 0)).set 1 13 rfl (.int .u64 0)).set 1 14 rfl (.bool false)).set 1 16 rfl (.int .i64 0)).is 1 (opv ⟨(some ⟨b,o,none⟩),n0,c0,A1,n1,c1,A2,n2,c2,A3,n3,c3⟩ ⟨kind,addr,err,aad,used,0,shard,sought,leaf,bit,0,false,0,tries,(j:Int),stamp⟩) rfl)
 try dsimp only [nput] at L
 generalize ((((w1).setCell ⟨gO,8,none⟩ (.int .i64 0)).setCell ⟨gO,13,none⟩ (.int .u64 0)).setCell ⟨gO,14,none⟩ (.bool false)).setCell ⟨gO,16,none⟩ (.int .i64 0)=w2 at L ⊢
 go_wp2_with (refine lO 3 (L.bk_ 1 rfl) ?_)
 refine ((T _).out).mono ?_
 rintro e w3 ⟨rfl,K'⟩
 replace L:=L.over K'
 have O_18:=L.at_ 1 18 rfl (v:=.int .i64 (j:Int)) rfl
 have O_8:=L.at_ 1 8 rfl (v:=.int .i64 0) rfl
 have O_z:=L.lt 1 rfl
 have O_f8:=L.fz 1 8 rfl
 have O_f18:=L.fz 1 18 rfl
 go_upto_region 5 with fail
 clear O_18 O_8 O_z O_f8 O_f18
 replace L:=(((L.set 1 8 rfl (.int .i64 8)).set 1 18 rfl (.int .i64 (((j:Int)+1)))).is 1 (opv ⟨(some ⟨b,o,none⟩),n0,c0,A1,n1,c1,A2,n2,c2,A3,n3,c3⟩ ⟨kind,addr,err,aad,used,8,shard,sought,leaf,bit,0,false,0,tries,((j:Int)+1),stamp⟩) rfl)
 try dsimp only [nput] at L
 generalize ((w3).setCell ⟨gO,8,none⟩ (.int .i64 8)).setCell ⟨gO,18,none⟩ (.int .i64 (((j:Int)+1)))=w4 at L ⊢
 refine rg L fun v5 hHeld=>?_
 replace L:=hHeld
 refine tg 0 21 (.pointer (some ⟨gH,0,none⟩)) rfl hHeld ?_
 refine ty 1 22 (.agg #[.int .u32 (a:Int),.int .i64 p]) rfl ?_ hHeld ?_
 ·intro ww hS
  try dsimp only at hS
  have H_0:=(hS).at_ 2 0 rfl (v:=.int .u32 (a:Int)) rfl
  have H_z:=(hS).lt 2 rfl
  have H_1:=(hS).at_ 2 1 rfl (v:=.int .i64 p) rfl
  have H_z:=(hS).lt 2 rfl
  go_simp
  try with_reducible rfl
  try omega
 refine tg 2 23 (.pointer (some ⟨gO,0,none⟩)) rfl hHeld ?_
 refine tg 3 24 (.pointer (some ⟨gO,2,none⟩)) rfl hHeld ?_
 refine tC 4 25 1 2 rfl rfl rfl hHeld ?_
 refine tg 5 26 (.pointer (some ⟨gO,18,none⟩)) rfl hHeld ?_
 refine tC 6 27 1 18 rfl rfl rfl hHeld ?_
 refine tg 7 28 (.pointer (some ⟨b,o+(j+1),none⟩)) rfl hHeld ?_
 refine ty 8 29 (.int .u32 (x:Int)) rfl ?_ hHeld ?_
 ·intro ww hS
  try dsimp only at hS
  have X:=((hS).K.cell (p:=⟨b,o+(j+1),none⟩) hb).trans hc
  go_simp
  try with_reducible rfl
  try omega
 refine rd 9 30 rfl fun K0 hK=>?_
 go_simp
 refine ((T1 _).out).mono ?_
 rintro e w6 ⟨rfl,K'⟩
 replace L:=L.over K'
 refine hK.out _ _ L ?_
 clear hHeld hK K0
 intro hHeld
 clear K'
 try simp only [Act.put,sA,sZ,sS]
 refine tz 10 20 rfl hHeld ?_
 refine tg 11 31 (.int .i64 (d:Nat)) rfl hHeld ?_
 refine tg 12 32 (.int .i64 0) rfl hHeld ?_
 refine tg 13 5 (.int .i64 (d:Nat)) rfl hHeld ?_
 refine tg 14 6 (.int .i64 0) rfl hHeld ?_
 refine wpAnyH_done (by kernel_rfl) ?_ _
 clear hHeld
 go_wp2_with fail
 refine ((T2 _).out).mono ?_
 rintro e w' ⟨rfl,rfl⟩
 have O_11:=L.at_ 1 11 rfl (v:=.int .i64 leaf) rfl
 have O_12:=L.at_ 1 12 rfl (v:=.int .i64 bit) rfl
 have O_z:=L.lt 1 rfl
 have O_f11:=L.fz 1 11 rfl
 have O_f12:=L.fz 1 12 rfl
 go_upto_region 7 with fail
 clear O_11 O_12 O_z O_f11 O_f12
 replace L:=(((L.set 1 11 rfl (.int .i64 (q:Int))).set 1 12 rfl (.int .i64 (r:Int))).is 1 (opv ⟨(some ⟨b,o,none⟩),n0,c0,A1,n1,c1,A2,n2,c2,A3,n3,c3⟩ ⟨kind,addr,err,aad,used,8,shard,sought,(q:Int),(r:Int),0,false,0,tries,((j:Int)+1),stamp⟩) rfl)
 try dsimp only [nput] at L
 generalize ((w6).setCell ⟨gO,11,none⟩ (.int .i64 (q:Int))).setCell ⟨gO,12,none⟩ (.int .i64 (r:Int))=w7 at L ⊢
 go_wp2_with (first | (refine lO 3 (L.bk_ 1 rfl) ?_) | (refine sO 4 40 (L.bk_ 0 rfl) rfl rfl ?_))
 generalize hal:World.setRow _ _ _=w8
 replace L:=L.rr0 hal
 clear hal
 refine eC Tryz.results153 (L.bk_ 0 rfl) ?_
 exact ⟨rfl,L.K⟩
theorem fur_kind {n:Nat} {s:Sc} (h:fur n s=true):s.kind=4:=(of_decide_eq_true h).1
theorem onward_any (ha:a<4294967296) (hM:Much a p M) (hn:h.n0≤65536) (hI:IS .u32 lo w h.A0 h.n0 h.c0 xs) (hin:s.kind=4→InB a M h.n0 xs) :
  Calls Tryz.prog 153 #[.agg #[.int .u32 a,.int .i64 p,.slice A n c,.int .i64 sh,.int .i64 wo,.int .i64 qu,.int .i64 tr],.agg (opv h s)] w (RetOp h (gon a h.n0 xs s) w):=by
 cases hf:fur h.n0 s with
 | true=>unfold gon;rw [if_pos hf];exact onward_more ha hM hn hI (hin (fur_kind hf)) hf
 | false=>unfold gon;rw [if_neg (by rw [hf];exact Bool.false_ne_true)];exact onward_end hn hf
end
end Go.Proofs.YtfhefofkhmkcnaaGreatDoor

/-
 What hint.done and hint.marked answer. Conditions: as of hint.onward.
-/
namespace Go.Proofs.YtfhefofkhmkcnaaGreatDoor
set_option maxRecDepth 100000
set_option maxRecDepth 100000
set_option maxRecDepth 100000
open Go.RowKit
set_option maxHeartbeats 8000000
set_option linter.unusedVariables false
theorem msk64:msk 64=18446744073709551615:=by decide +kernel
section
variable {w:World} {lo lo2 a M:Nat} {p sh wo qu tr:Int} {A:Option Addr} {n c:Nat} {xs:List Int} {h:Hd} {s:Sc} {l:Ls}
theorem done_0 (ha:a<4294967296) (hM:Much a p M) (hn:h.n0≤65536) (hI:IS .u32 lo w h.A0 h.n0 h.c0 xs) (hin:s.kind=4→InB a M h.n0 xs) (h0:s.at_≠0) :
  Calls Tryz.prog 136 #[.agg #[.int .u32 a,.int .i64 p,.slice A n c,.int .i64 sh,.int .i64 wo,.int .i64 qu,.int .i64 tr],.agg (opv h s)] w (RetOp h (gon a h.n0 xs s) w):=by
 have TO:=fun w (hI:IS .u32 lo w h.A0 h.n0 h.c0 xs)=>Lib.hid (onward_any (w:=w) (sh:=sh) (wo:=wo) (qu:=qu) (tr:=tr) (A:=A) (n:=n) (c:=c) (s:=s) ha hM hn hI hin)
 obtain ⟨s2,hs2⟩:∃ s2,s2=gon a h.n0 xs s:=⟨_,rfl⟩
 simp only [← hs2] at TO ⊢
 clear hs2
 rcases s with ⟨kind,addr,err,aad,used,phase,shard,sought,leaf,bit,word,full,at_,tries,item,stamp⟩
 rcases h with ⟨A0,n0,c0,A1,n1,c1,A2,n2,c2,A3,n3,c3⟩
 dsimp only at *
 have e1:(at_ != 0)=true:=by simpa using h0
 clear h0
 go_enter Tryz.func136,Tryz.ntmps136
 go_upto_region 1 with (fail)
 have L:=Loc.start w
 generalize hal:World.alloc _ _=w1
 replace L:=L.a3 hal
 clear hal
 replace L:=L.is0 (opv hd0 sc0) rfl
 generalize w.heap.size+1+1=gR at L ⊢
 generalize w.heap.size+1=gO at L ⊢
 generalize w.heap.size=gH at L ⊢
 refine rg L fun v2 hHeld=>?_
 replace L:=hHeld
 refine tg 0 5 (.pointer (some ⟨gO,16,none⟩)) rfl hHeld ?_
 refine tC 1 6 1 16 rfl rfl rfl hHeld ?_
 refine tg 2 7 (.bool true) rfl hHeld ?_
 refine tg 3 8 (.bool true) rfl hHeld ?_
 refine tn 4 9 rfl hHeld ?_
 refine tn 5 10 rfl hHeld ?_
 refine tn 6 11 rfl hHeld ?_
 refine tn 7 12 rfl hHeld ?_
 refine tn 8 13 rfl hHeld ?_
 refine tn 9 14 rfl hHeld ?_
 refine tn 10 15 rfl hHeld ?_
 refine tn 11 16 rfl hHeld ?_
 refine tg 12 17 (.bool true) rfl hHeld ?_
 refine wpAnyH_done (by kernel_rfl) ?_ _
 clear hHeld
 go_wp2_with (first | (refine lC 2 (L.bk_ 2 rfl) ?_) | (refine lO 3 (L.bk_ 1 rfl) ?_))
 refine ((TO _ (hI.below L.K)).out).mono ?_
 rintro e w3 ⟨rfl,K'⟩
 replace L:=L.over K'
 go_wp2_with (refine sO 4 20 (L.bk_ 0 rfl) rfl rfl ?_)
 generalize hal:World.setRow _ _ _=w4
 replace L:=L.rr0 hal
 clear hal
 refine eC Tryz.results136 (L.bk_ 0 rfl) ?_
 exact ⟨rfl,L.K⟩
theorem done_1 (ha:a<4294967296) (hM:Much a p M) (hn:h.n0≤65536) (hI:IS .u32 lo w h.A0 h.n0 h.c0 xs) (hin:s.kind=4→InB a M h.n0 xs) (h0:s.at_=0) (h1:s.full=true) (h2:s.word≠msk 64) :
  Calls Tryz.prog 136 #[.agg #[.int .u32 a,.int .i64 p,.slice A n c,.int .i64 sh,.int .i64 wo,.int .i64 qu,.int .i64 tr],.agg (opv h s)] w (RetOp h (gon a h.n0 xs s) w):=by
 have T:=fun w=>Lib.hid (mask_any 64 (by omega) w)
 have TO:=fun w (hI:IS .u32 lo w h.A0 h.n0 h.c0 xs)=>Lib.hid (onward_any (w:=w) (sh:=sh) (wo:=wo) (qu:=qu) (tr:=tr) (A:=A) (n:=n) (c:=c) (s:=s) ha hM hn hI hin)
 obtain ⟨s2,hs2⟩:∃ s2,s2=gon a h.n0 xs s:=⟨_,rfl⟩
 simp only [← hs2] at TO ⊢
 clear hs2
 rcases s with ⟨kind,addr,err,aad,used,phase,shard,sought,leaf,bit,word,full,at_,tries,item,stamp⟩
 rcases h with ⟨A0,n0,c0,A1,n1,c1,A2,n2,c2,A3,n3,c3⟩
 dsimp only at *
 subst h0 h1
 have e1:((word:Int) != (msk 64:Nat))=true:=by simp;omega
 clear h2
 go_enter Tryz.func136,Tryz.ntmps136
 go_upto_region 1 with (fail)
 have L:=Loc.start w
 generalize hal:World.alloc _ _=w1
 replace L:=L.a3 hal
 clear hal
 replace L:=L.is0 (opv hd0 sc0) rfl
 generalize w.heap.size+1+1=gR at L ⊢
 generalize w.heap.size+1=gO at L ⊢
 generalize w.heap.size=gH at L ⊢
 refine rg L fun v2 hHeld=>?_
 replace L:=hHeld
 refine tg 0 5 (.pointer (some ⟨gO,16,none⟩)) rfl hHeld ?_
 refine tC 1 6 1 16 rfl rfl rfl hHeld ?_
 refine tg 2 7 (.bool false) rfl hHeld ?_
 refine tg 3 8 (.bool false) rfl hHeld ?_
 refine tg 4 9 (.pointer (some ⟨gO,14,none⟩)) rfl hHeld ?_
 refine tC 5 10 1 14 rfl rfl rfl hHeld ?_
 refine tg 6 11 (.bool true) rfl hHeld ?_
 refine tg 7 12 (.pointer (some ⟨gO,13,none⟩)) rfl hHeld ?_
 refine tC 8 13 1 13 rfl rfl rfl hHeld ?_
 refine rd 9 14 rfl fun K0 hK=>?_
 go_simp
 refine ((T _).out).mono ?_
 rintro e w' ⟨rfl,rfl⟩
 refine hK.out _ _ L ?_
 clear hHeld hK K0
 intro hHeld
 try simp only [Act.put,sA,sZ,sS]
 refine tg 10 15 (.bool true) rfl hHeld ?_
 refine tg 11 16 (.bool true) rfl hHeld ?_
 refine tg 12 17 (.bool true) rfl hHeld ?_
 refine wpAnyH_done (by kernel_rfl) ?_ _
 clear hHeld
 go_wp2_with (first | (refine lC 2 (L.bk_ 2 rfl) ?_) | (refine lO 3 (L.bk_ 1 rfl) ?_))
 refine ((TO _ (hI.below L.K)).out).mono ?_
 rintro e w3 ⟨rfl,K'⟩
 replace L:=L.over K'
 go_wp2_with (refine sO 4 20 (L.bk_ 0 rfl) rfl rfl ?_)
 generalize hal:World.setRow _ _ _=w4
 replace L:=L.rr0 hal
 clear hal
 refine eC Tryz.results136 (L.bk_ 0 rfl) ?_
 exact ⟨rfl,L.K⟩
theorem done_2 (h0:s.at_=0) (h1:s.full=true) (h2:s.word=msk 64) :
  Calls Tryz.prog 136 #[.agg #[.int .u32 a,.int .i64 p,.slice A n c,.int .i64 sh,.int .i64 wo,.int .i64 qu,.int .i64 tr],.agg (opv h s)] w (RetOp h (root_ s) w):=by
 have T:=fun w=>Lib.hid (mask_any 64 (by omega) w)
 rcases s with ⟨kind,addr,err,aad,used,phase,shard,sought,leaf,bit,word,full,at_,tries,item,stamp⟩
 rcases h with ⟨A0,n0,c0,A1,n1,c1,A2,n2,c2,A3,n3,c3⟩
 dsimp only at *
 subst h0 h1 h2
 have e0:(((msk 64:Nat):Int) != (msk 64:Nat))=false:=by simp
 go_enter Tryz.func136,Tryz.ntmps136
 go_upto_region 1 with (fail)
 have L:=Loc.start w
 generalize hal:World.alloc _ _=w1
 replace L:=L.a3 hal
 clear hal
 replace L:=L.is0 (opv hd0 sc0) rfl
 generalize w.heap.size+1+1=gR at L ⊢
 generalize w.heap.size+1=gO at L ⊢
 generalize w.heap.size=gH at L ⊢
 refine rg L fun v2 hHeld=>?_
 replace L:=hHeld
 refine tg 0 5 (.pointer (some ⟨gO,16,none⟩)) rfl hHeld ?_
 refine tC 1 6 1 16 rfl rfl rfl hHeld ?_
 refine tg 2 7 (.bool false) rfl hHeld ?_
 refine tg 3 8 (.bool false) rfl hHeld ?_
 refine tg 4 9 (.pointer (some ⟨gO,14,none⟩)) rfl hHeld ?_
 refine tC 5 10 1 14 rfl rfl rfl hHeld ?_
 refine tg 6 11 (.bool true) rfl hHeld ?_
 refine tg 7 12 (.pointer (some ⟨gO,13,none⟩)) rfl hHeld ?_
 refine tC 8 13 1 13 rfl rfl rfl hHeld ?_
 refine rd 9 14 rfl fun K0 hK=>?_
 go_simp
 refine ((T _).out).mono ?_
 rintro e w' ⟨rfl,rfl⟩
 refine hK.out _ _ L ?_
 clear hHeld hK K0
 intro hHeld
 try simp only [Act.put,sA,sZ,sS]
 refine tg 10 15 (.bool false) rfl hHeld ?_
 refine tg 11 16 (.bool false) rfl hHeld ?_
 refine tg 12 17 (.bool false) rfl hHeld ?_
 refine wpAnyH_done (by kernel_rfl) ?_ _
 clear hHeld
 have O_8:=L.at_ 1 8 rfl (v:=.int .i64 phase) rfl
 have O_16:=L.at_ 1 16 rfl (v:=.int .i64 0) rfl
 have O_z:=L.lt 1 rfl
 have O_f8:=L.fz 1 8 rfl
 have O_f16:=L.fz 1 16 rfl
 go_upto_region 4 with fail
 clear O_8 O_16 O_z O_f8 O_f16
 replace L:=(((L.set 1 8 rfl (.int .i64 4)).set 1 16 rfl (.int .i64 1)).is 1 (opv ⟨A0,n0,c0,A1,n1,c1,A2,n2,c2,A3,n3,c3⟩ ⟨kind,addr,err,aad,used,4,shard,sought,leaf,bit,(msk 64),true,1,tries,item,stamp⟩) rfl)
 try dsimp only [nput] at L
 generalize ((v2).setCell ⟨gO,8,none⟩ (.int .i64 4)).setCell ⟨gO,16,none⟩ (.int .i64 1)=w3 at L ⊢
 go_wp2_with (first | (refine lO 3 (L.bk_ 1 rfl) ?_) | (refine sO 4 23 (L.bk_ 0 rfl) rfl rfl ?_))
 generalize hal:World.setRow _ _ _=w4
 replace L:=L.rr0 hal
 clear hal
 refine eC Tryz.results136 (L.bk_ 0 rfl) ?_
 exact ⟨rfl,L.K⟩
theorem done_3 (h0:s.at_=0) (h1:s.full=false) :
  Calls Tryz.prog 136 #[.agg #[.int .u32 a,.int .i64 p,.slice A n c,.int .i64 sh,.int .i64 wo,.int .i64 qu,.int .i64 tr],.agg (opv h s)] w (RetOp h (root_ s) w):=by
 rcases s with ⟨kind,addr,err,aad,used,phase,shard,sought,leaf,bit,word,full,at_,tries,item,stamp⟩
 rcases h with ⟨A0,n0,c0,A1,n1,c1,A2,n2,c2,A3,n3,c3⟩
 dsimp only at *
 subst h0 h1
 go_enter Tryz.func136,Tryz.ntmps136
 go_upto_region 1 with (fail)
 have L:=Loc.start w
 generalize hal:World.alloc _ _=w1
 replace L:=L.a3 hal
 clear hal
 replace L:=L.is0 (opv hd0 sc0) rfl
 generalize w.heap.size+1+1=gR at L ⊢
 generalize w.heap.size+1=gO at L ⊢
 generalize w.heap.size=gH at L ⊢
 refine rg L fun v2 hHeld=>?_
 replace L:=hHeld
 refine tg 0 5 (.pointer (some ⟨gO,16,none⟩)) rfl hHeld ?_
 refine tC 1 6 1 16 rfl rfl rfl hHeld ?_
 refine tg 2 7 (.bool false) rfl hHeld ?_
 refine tg 3 8 (.bool false) rfl hHeld ?_
 refine tg 4 9 (.pointer (some ⟨gO,14,none⟩)) rfl hHeld ?_
 refine tC 5 10 1 14 rfl rfl rfl hHeld ?_
 refine tg 6 11 (.bool false) rfl hHeld ?_
 refine tn 7 12 rfl hHeld ?_
 refine tn 8 13 rfl hHeld ?_
 refine tn 9 14 rfl hHeld ?_
 refine tn 10 15 rfl hHeld ?_
 refine tg 11 16 (.bool false) rfl hHeld ?_
 refine tg 12 17 (.bool false) rfl hHeld ?_
 refine wpAnyH_done (by kernel_rfl) ?_ _
 clear hHeld
 have O_8:=L.at_ 1 8 rfl (v:=.int .i64 phase) rfl
 have O_16:=L.at_ 1 16 rfl (v:=.int .i64 0) rfl
 have O_z:=L.lt 1 rfl
 have O_f8:=L.fz 1 8 rfl
 have O_f16:=L.fz 1 16 rfl
 go_upto_region 4 with fail
 clear O_8 O_16 O_z O_f8 O_f16
 replace L:=(((L.set 1 8 rfl (.int .i64 4)).set 1 16 rfl (.int .i64 1)).is 1 (opv ⟨A0,n0,c0,A1,n1,c1,A2,n2,c2,A3,n3,c3⟩ ⟨kind,addr,err,aad,used,4,shard,sought,leaf,bit,word,false,1,tries,item,stamp⟩) rfl)
 try dsimp only [nput] at L
 generalize ((v2).setCell ⟨gO,8,none⟩ (.int .i64 4)).setCell ⟨gO,16,none⟩ (.int .i64 1)=w3 at L ⊢
 go_wp2_with (first | (refine lO 3 (L.bk_ 1 rfl) ?_) | (refine sO 4 23 (L.bk_ 0 rfl) rfl rfl ?_))
 generalize hal:World.setRow _ _ _=w4
 replace L:=L.rr0 hal
 clear hal
 refine eC Tryz.results136 (L.bk_ 0 rfl) ?_
 exact ⟨rfl,L.K⟩
theorem done_any (ha:a<4294967296) (hM:Much a p M) (hn:h.n0≤65536) (hI:IS .u32 lo w h.A0 h.n0 h.c0 xs) (hin:s.kind=4→InB a M h.n0 xs) :
  Calls Tryz.prog 136 #[.agg #[.int .u32 a,.int .i64 p,.slice A n c,.int .i64 sh,.int .i64 wo,.int .i64 qu,.int .i64 tr],.agg (opv h s)] w (RetOp h (dn a h.n0 xs s) w):=by
 unfold dn
 by_cases h0:s.at_=0
 ·cases h1:s.full with
  | false=>rw [if_neg (by unfold ends_;simp [h0,h1])];exact done_3 h0 h1
  | true =>
   by_cases h2:s.word=msk 64
   ·rw [if_neg (by unfold ends_;rw [← msk64];simp [h0,h2])];exact done_2 h0 h1 h2
   ·rw [if_pos (by unfold ends_;rw [← msk64];simp [h1,h2])];exact done_1 ha hM hn hI hin h0 h1 h2
 ·rw [if_pos (by unfold ends_;simp [h0])];exact done_0 ha hM hn hI hin h0
theorem marked_any (x b:Nat) (f:Bool) (hx:x<18446744073709551616) (hb:b<64) (w:World) :
  Calls Tryz.prog 134 #[.int .u64 x,.int .i64 b,.bool f] w fun e w'=>e=.returned (.int .u64 (mkd x b f:Nat))∧w=w':=by
 cases f with
 | true =>
  show Calls Tryz.prog 134 #[.int .u64 x,.int .i64 b,.bool true] w fun e w'=>e=.returned (.int .u64 (setb x b:Nat))∧w=w'
  go_enter Tryz.func134,Tryz.ntmps134
  go_wp2_with (go_at_call 60;refine (set_any _ _ hx hb _).mono ?_;rintro e w' ⟨rfl,rfl⟩)
  go_ret
  exact ⟨rfl,rfl⟩
 | false =>
  show Calls Tryz.prog 134 #[.int .u64 x,.int .i64 b,.bool false] w fun e w'=>e=.returned (.int .u64 (clrb x b:Nat))∧w=w'
  go_enter Tryz.func134,Tryz.ntmps134
  go_wp2_with (go_at_call 66;refine (clear_any _ _ hx hb _).mono ?_;rintro e w' ⟨rfl,rfl⟩)
  go_ret
  exact ⟨rfl,rfl⟩
end
end Go.Proofs.YtfhefofkhmkcnaaGreatDoor

/-
 What hint.look and hint.Goes answer. Conditions: as of hint.onward.
-/
namespace Go.Proofs.YtfhefofkhmkcnaaGreatDoor
set_option maxRecDepth 100000
set_option maxRecDepth 100000
set_option maxRecDepth 100000
open Go.RowKit
set_option maxHeartbeats 8000000
set_option linter.unusedVariables false
theorem IS.uniq {k:IntKind} {lo lo':Nat} {w:World} {A:Option Addr} {n c:Nat} {xs ys:List Int} (h:IS k lo w A n c xs) (h':IS k lo' w A n c ys):xs=ys:=by
 have e1:=h.len
 have e2:=h'.len
 refine List.ext_getElem (by omega) fun j h1 h2=>?_
 obtain ⟨b,o,e,_,q⟩:=h.get (j:=j) (by omega)
 obtain ⟨b',o',e',_,q'⟩:=h'.get (j:=j) (by omega)
 rw [e] at e';cases e'
 rw [q] at q'
 have q3:gi xs j=gi ys j:=by injection q' with q';injection q'
 rw [gi_at h1,gi_at h2] at q3
 exact q3
theorem Lists.asked {lo:Nat} {w:World} {A0 A1 A2 A3:Option Addr} {n0 n1 n2 n3 c0 c1 c2 c3:Nat} {l:Ls} {xs:List Int} (L:Lists lo w ⟨A0,n0,c0,A1,n1,c1,A2,n2,c2,A3,n3,c3⟩ l) (e:l.rqs=xs):IS .u32 lo w A0 n0 c0 xs:=e ▸ L.i0
section
variable {w:World} {lo lo2 a M:Nat} {p sh wo qu tr:Int} {A:Option Addr} {n c:Nat} {xs:List Int} {h:Hd} {s:Sc} {l:Ls}
theorem look_y_true (ha:a<4294967296) (hM:Much a p M) (hn:h.n0≤65536) (hI:IS .u32 lo w h.A0 h.n0 h.c0 xs) (hin:s.kind=4→InB a M h.n0 xs) {x b:Nat} (hx:x<18446744073709551616) (hb2:b<64) (hb:x.testBit b=true) (hfu:s.full=true) :
  Calls Tryz.prog 133 #[.agg #[.int .u32 a,.int .i64 p,.slice A n c,.int .i64 sh,.int .i64 wo,.int .i64 qu,.int .i64 tr],.agg (opv h s),.int .u64 x,.int .i64 b] w (RetOp h (dn a h.n0 xs (worded s x)) w):=by
 have T:=fun w=>Lib.hid (hb ▸ has_any x b hx hb2 w)
 clear hb
 have TO:=fun w (hI:IS .u32 lo w h.A0 h.n0 h.c0 xs)=>Lib.hid (done_any (w:=w) (sh:=sh) (wo:=wo) (qu:=qu) (tr:=tr) (A:=A) (n:=n) (c:=c) (s:=worded s x) ha hM hn hI hin)
 obtain ⟨s2,hs2⟩:∃ s2,s2=dn a h.n0 xs (worded s x):=⟨_,rfl⟩
 simp only [← hs2] at TO ⊢
 clear hs2
 rcases s with ⟨kind,addr,err,aad,used,phase,shard,sought,leaf,bit,word,full,at_,tries,item,stamp⟩
 rcases h with ⟨A0,n0,c0,A1,n1,c1,A2,n2,c2,A3,n3,c3⟩
 dsimp only at *
 subst hfu
 go_enter Tryz.func133,Tryz.ntmps133
 go_upto_region 1 with (fail)
 have L:=Loc.start w
 generalize hal:World.alloc _ _=w1
 replace L:=L.a3 hal
 clear hal
 replace L:=L.is0 (opv hd0 sc0) rfl
 generalize w.heap.size+1+1=gR at L ⊢
 generalize w.heap.size+1=gO at L ⊢
 generalize w.heap.size=gH at L ⊢
 have O_13:=L.at_ 1 13 rfl (v:=.int .u64 ((word:Nat):Int)) rfl
 have O_z:=L.lt 1 rfl
 have O_f13:=L.fz 1 13 rfl
 go_upto_region 2 with fail
 clear O_13 O_z O_f13
 generalize hal:World.setCell _ _ _=w2
 replace L:=L.sc1 hal (l9:=(opv ⟨A0,n0,c0,A1,n1,c1,A2,n2,c2,A3,n3,c3⟩ ⟨kind,addr,err,aad,used,phase,shard,sought,leaf,bit,x,true,at_,tries,item,stamp⟩)) rfl
 clear hal
 refine rg L fun v3 hHeld=>?_
 replace L:=hHeld
 refine tg 0 11 (.int .u64 ((x:Nat):Int)) rfl hHeld ?_
 refine tg 1 12 (.int .i64 (b:Int)) rfl hHeld ?_
 refine tg 3 14 (.pointer (some ⟨gO,14,none⟩)) rfl hHeld ?_
 refine tC 4 15 1 14 rfl rfl rfl hHeld ?_
 refine rd 2 13 rfl fun K0 hK=>?_
 go_simp
 refine ((T _).out).mono ?_
 rintro e w' ⟨rfl,rfl⟩
 refine hK.out _ _ L ?_
 clear hHeld hK K0
 intro hHeld
 try simp only [Act.put,sA,sZ,sS]
 refine tg 5 16 (.bool true) rfl hHeld ?_
 refine wpAnyH_done (by kernel_rfl) ?_ _
 clear hHeld
 go_wp2_with (first | (refine lC 4 (L.bk_ 2 rfl) ?_) | (refine lO 5 (L.bk_ 1 rfl) ?_))
 refine ((TO _ (hI.below L.K)).out).mono ?_
 rintro e w4 ⟨rfl,K'⟩
 replace L:=L.over K'
 go_wp2_with (refine sO 8 19 (L.bk_ 0 rfl) rfl rfl ?_)
 generalize hal:World.setRow _ _ _=w5
 replace L:=L.rr0 hal
 clear hal
 refine eC Tryz.results133 (L.bk_ 0 rfl) ?_
 exact ⟨rfl,L.K⟩
theorem look_y_false (ha:a<4294967296) (hM:Much a p M) (hn:h.n0≤65536) (hI:IS .u32 lo w h.A0 h.n0 h.c0 xs) (hin:s.kind=4→InB a M h.n0 xs) {x b:Nat} (hx:x<18446744073709551616) (hb2:b<64) (hb:x.testBit b=false) (hfu:s.full=false) :
  Calls Tryz.prog 133 #[.agg #[.int .u32 a,.int .i64 p,.slice A n c,.int .i64 sh,.int .i64 wo,.int .i64 qu,.int .i64 tr],.agg (opv h s),.int .u64 x,.int .i64 b] w (RetOp h (dn a h.n0 xs (worded s x)) w):=by
 have T:=fun w=>Lib.hid (hb ▸ has_any x b hx hb2 w)
 clear hb
 have TO:=fun w (hI:IS .u32 lo w h.A0 h.n0 h.c0 xs)=>Lib.hid (done_any (w:=w) (sh:=sh) (wo:=wo) (qu:=qu) (tr:=tr) (A:=A) (n:=n) (c:=c) (s:=worded s x) ha hM hn hI hin)
 obtain ⟨s2,hs2⟩:∃ s2,s2=dn a h.n0 xs (worded s x):=⟨_,rfl⟩
 simp only [← hs2] at TO ⊢
 clear hs2
 rcases s with ⟨kind,addr,err,aad,used,phase,shard,sought,leaf,bit,word,full,at_,tries,item,stamp⟩
 rcases h with ⟨A0,n0,c0,A1,n1,c1,A2,n2,c2,A3,n3,c3⟩
 dsimp only at *
 subst hfu
 go_enter Tryz.func133,Tryz.ntmps133
 go_upto_region 1 with (fail)
 have L:=Loc.start w
 generalize hal:World.alloc _ _=w1
 replace L:=L.a3 hal
 clear hal
 replace L:=L.is0 (opv hd0 sc0) rfl
 generalize w.heap.size+1+1=gR at L ⊢
 generalize w.heap.size+1=gO at L ⊢
 generalize w.heap.size=gH at L ⊢
 have O_13:=L.at_ 1 13 rfl (v:=.int .u64 ((word:Nat):Int)) rfl
 have O_z:=L.lt 1 rfl
 have O_f13:=L.fz 1 13 rfl
 go_upto_region 2 with fail
 clear O_13 O_z O_f13
 generalize hal:World.setCell _ _ _=w2
 replace L:=L.sc1 hal (l9:=(opv ⟨A0,n0,c0,A1,n1,c1,A2,n2,c2,A3,n3,c3⟩ ⟨kind,addr,err,aad,used,phase,shard,sought,leaf,bit,x,false,at_,tries,item,stamp⟩)) rfl
 clear hal
 refine rg L fun v3 hHeld=>?_
 replace L:=hHeld
 refine tg 0 11 (.int .u64 ((x:Nat):Int)) rfl hHeld ?_
 refine tg 1 12 (.int .i64 (b:Int)) rfl hHeld ?_
 refine tg 3 14 (.pointer (some ⟨gO,14,none⟩)) rfl hHeld ?_
 refine tC 4 15 1 14 rfl rfl rfl hHeld ?_
 refine rd 2 13 rfl fun K0 hK=>?_
 go_simp
 refine ((T _).out).mono ?_
 rintro e w' ⟨rfl,rfl⟩
 refine hK.out _ _ L ?_
 clear hHeld hK K0
 intro hHeld
 try simp only [Act.put,sA,sZ,sS]
 refine tg 5 16 (.bool true) rfl hHeld ?_
 refine wpAnyH_done (by kernel_rfl) ?_ _
 clear hHeld
 go_wp2_with (first | (refine lC 4 (L.bk_ 2 rfl) ?_) | (refine lO 5 (L.bk_ 1 rfl) ?_))
 refine ((TO _ (hI.below L.K)).out).mono ?_
 rintro e w4 ⟨rfl,K'⟩
 replace L:=L.over K'
 go_wp2_with (refine sO 8 19 (L.bk_ 0 rfl) rfl rfl ?_)
 generalize hal:World.setRow _ _ _=w5
 replace L:=L.rr0 hal
 clear hal
 refine eC Tryz.results133 (L.bk_ 0 rfl) ?_
 exact ⟨rfl,L.K⟩
theorem look_n_true (ha:a<4294967296) (hM:Much a p M) (hn:h.n0≤65536) (hI:IS .u32 lo w h.A0 h.n0 h.c0 xs) (hin:s.kind=4→InB a M h.n0 xs) {x b:Nat} (hx:x<18446744073709551616) (hb2:b<64) (hb:x.testBit b=false) (hfu:s.full=true) :
  Calls Tryz.prog 133 #[.agg #[.int .u32 a,.int .i64 p,.slice A n c,.int .i64 sh,.int .i64 wo,.int .i64 qu,.int .i64 tr],.agg (opv h s),.int .u64 x,.int .i64 b] w (RetOp h (setp (worded s x)) w):=by
 have T:=fun w=>Lib.hid (hb ▸ has_any x b hx hb2 w)
 clear hb
 rcases s with ⟨kind,addr,err,aad,used,phase,shard,sought,leaf,bit,word,full,at_,tries,item,stamp⟩
 rcases h with ⟨A0,n0,c0,A1,n1,c1,A2,n2,c2,A3,n3,c3⟩
 dsimp only at *
 subst hfu
 go_enter Tryz.func133,Tryz.ntmps133
 go_upto_region 1 with (fail)
 have L:=Loc.start w
 generalize hal:World.alloc _ _=w1
 replace L:=L.a3 hal
 clear hal
 replace L:=L.is0 (opv hd0 sc0) rfl
 generalize w.heap.size+1+1=gR at L ⊢
 generalize w.heap.size+1=gO at L ⊢
 generalize w.heap.size=gH at L ⊢
 have O_13:=L.at_ 1 13 rfl (v:=.int .u64 ((word:Nat):Int)) rfl
 have O_z:=L.lt 1 rfl
 have O_f13:=L.fz 1 13 rfl
 go_upto_region 2 with fail
 clear O_13 O_z O_f13
 generalize hal:World.setCell _ _ _=w2
 replace L:=L.sc1 hal (l9:=(opv ⟨A0,n0,c0,A1,n1,c1,A2,n2,c2,A3,n3,c3⟩ ⟨kind,addr,err,aad,used,phase,shard,sought,leaf,bit,x,true,at_,tries,item,stamp⟩)) rfl
 clear hal
 refine rg L fun v3 hHeld=>?_
 replace L:=hHeld
 refine tg 0 11 (.int .u64 ((x:Nat):Int)) rfl hHeld ?_
 refine tg 1 12 (.int .i64 (b:Int)) rfl hHeld ?_
 refine tg 3 14 (.pointer (some ⟨gO,14,none⟩)) rfl hHeld ?_
 refine tC 4 15 1 14 rfl rfl rfl hHeld ?_
 refine rd 2 13 rfl fun K0 hK=>?_
 go_simp
 refine ((T _).out).mono ?_
 rintro e w' ⟨rfl,rfl⟩
 refine hK.out _ _ L ?_
 clear hHeld hK K0
 intro hHeld
 try simp only [Act.put,sA,sZ,sS]
 refine tg 5 16 (.bool false) rfl hHeld ?_
 refine wpAnyH_done (by kernel_rfl) ?_ _
 clear hHeld
 have O_8:=L.at_ 1 8 rfl (v:=.int .i64 phase) rfl
 have O_z:=L.lt 1 rfl
 have O_f8:=L.fz 1 8 rfl
 go_upto_region 5 with fail
 clear O_8 O_z O_f8
 generalize hal:World.setCell _ _ _=w4
 replace L:=L.sc1 hal (l9:=(opv ⟨A0,n0,c0,A1,n1,c1,A2,n2,c2,A3,n3,c3⟩ ⟨kind,addr,err,aad,used,5,shard,sought,leaf,bit,x,true,at_,tries,item,stamp⟩)) rfl
 clear hal
 go_wp2_with (first | (refine lO 5 (L.bk_ 1 rfl) ?_) | (refine sO 8 21 (L.bk_ 0 rfl) rfl rfl ?_))
 generalize hal:World.setRow _ _ _=w5
 replace L:=L.rr0 hal
 clear hal
 refine eC Tryz.results133 (L.bk_ 0 rfl) ?_
 exact ⟨rfl,L.K⟩
theorem look_n_false (ha:a<4294967296) (hM:Much a p M) (hn:h.n0≤65536) (hI:IS .u32 lo w h.A0 h.n0 h.c0 xs) (hin:s.kind=4→InB a M h.n0 xs) {x b:Nat} (hx:x<18446744073709551616) (hb2:b<64) (hb:x.testBit b=true) (hfu:s.full=false) :
  Calls Tryz.prog 133 #[.agg #[.int .u32 a,.int .i64 p,.slice A n c,.int .i64 sh,.int .i64 wo,.int .i64 qu,.int .i64 tr],.agg (opv h s),.int .u64 x,.int .i64 b] w (RetOp h (setp (worded s x)) w):=by
 have T:=fun w=>Lib.hid (hb ▸ has_any x b hx hb2 w)
 clear hb
 rcases s with ⟨kind,addr,err,aad,used,phase,shard,sought,leaf,bit,word,full,at_,tries,item,stamp⟩
 rcases h with ⟨A0,n0,c0,A1,n1,c1,A2,n2,c2,A3,n3,c3⟩
 dsimp only at *
 subst hfu
 go_enter Tryz.func133,Tryz.ntmps133
 go_upto_region 1 with (fail)
 have L:=Loc.start w
 generalize hal:World.alloc _ _=w1
 replace L:=L.a3 hal
 clear hal
 replace L:=L.is0 (opv hd0 sc0) rfl
 generalize w.heap.size+1+1=gR at L ⊢
 generalize w.heap.size+1=gO at L ⊢
 generalize w.heap.size=gH at L ⊢
 have O_13:=L.at_ 1 13 rfl (v:=.int .u64 ((word:Nat):Int)) rfl
 have O_z:=L.lt 1 rfl
 have O_f13:=L.fz 1 13 rfl
 go_upto_region 2 with fail
 clear O_13 O_z O_f13
 generalize hal:World.setCell _ _ _=w2
 replace L:=L.sc1 hal (l9:=(opv ⟨A0,n0,c0,A1,n1,c1,A2,n2,c2,A3,n3,c3⟩ ⟨kind,addr,err,aad,used,phase,shard,sought,leaf,bit,x,false,at_,tries,item,stamp⟩)) rfl
 clear hal
 refine rg L fun v3 hHeld=>?_
 replace L:=hHeld
 refine tg 0 11 (.int .u64 ((x:Nat):Int)) rfl hHeld ?_
 refine tg 1 12 (.int .i64 (b:Int)) rfl hHeld ?_
 refine tg 3 14 (.pointer (some ⟨gO,14,none⟩)) rfl hHeld ?_
 refine tC 4 15 1 14 rfl rfl rfl hHeld ?_
 refine rd 2 13 rfl fun K0 hK=>?_
 go_simp
 refine ((T _).out).mono ?_
 rintro e w' ⟨rfl,rfl⟩
 refine hK.out _ _ L ?_
 clear hHeld hK K0
 intro hHeld
 try simp only [Act.put,sA,sZ,sS]
 refine tg 5 16 (.bool false) rfl hHeld ?_
 refine wpAnyH_done (by kernel_rfl) ?_ _
 clear hHeld
 have O_8:=L.at_ 1 8 rfl (v:=.int .i64 phase) rfl
 have O_z:=L.lt 1 rfl
 have O_f8:=L.fz 1 8 rfl
 go_upto_region 5 with fail
 clear O_8 O_z O_f8
 generalize hal:World.setCell _ _ _=w4
 replace L:=L.sc1 hal (l9:=(opv ⟨A0,n0,c0,A1,n1,c1,A2,n2,c2,A3,n3,c3⟩ ⟨kind,addr,err,aad,used,5,shard,sought,leaf,bit,x,false,at_,tries,item,stamp⟩)) rfl
 clear hal
 go_wp2_with (first | (refine lO 5 (L.bk_ 1 rfl) ?_) | (refine sO 8 21 (L.bk_ 0 rfl) rfl rfl ?_))
 generalize hal:World.setRow _ _ _=w5
 replace L:=L.rr0 hal
 clear hal
 refine eC Tryz.results133 (L.bk_ 0 rfl) ?_
 exact ⟨rfl,L.K⟩
theorem look_any (ha:a<4294967296) (hM:Much a p M) (hn:h.n0≤65536) (hI:IS .u32 lo w h.A0 h.n0 h.c0 xs) (hin:s.kind=4→InB a M h.n0 xs) {x b:Nat} (hx:x<18446744073709551616) (hb2:b<64) :
  Calls Tryz.prog 133 #[.agg #[.int .u32 a,.int .i64 p,.slice A n c,.int .i64 sh,.int .i64 wo,.int .i64 qu,.int .i64 tr],.agg (opv h s),.int .u64 x,.int .i64 b] w (RetOp h (lk a h.n0 xs s x b) w):=by
 unfold lk
 cases hb:x.testBit b with
 | true =>
  cases hf:s.full with
  | true=>rw [if_pos rfl];exact look_y_true ha hM hn hI hin hx hb2 hb hf
  | false=>rw [if_neg (by simp)];exact look_n_false ha hM hn hI hin hx hb2 hb hf
 | false =>
  cases hf:s.full with
  | true=>rw [if_neg (by simp)];exact look_n_true ha hM hn hI hin hx hb2 hb hf
  | false=>rw [if_pos rfl];exact look_y_false ha hM hn hI hin hx hb2 hb hf
theorem goes_any (ha:a<4294967296) (hM:Much a p M) (hn:h.n0≤65536) (hI:IS .u32 lo w h.A0 h.n0 h.c0 xs) (hin:s.kind=4→InB a M h.n0 xs) (L:Lists lo2 w h l) (h1:h.n1≤65536) (h2:h.n2≤65536) (h3:h.n3≤65536) :
  Calls Tryz.prog 160 #[.agg #[.int .u32 a,.int .i64 p,.slice A n c,.int .i64 sh,.int .i64 wo,.int .i64 qu,.int .i64 tr],.agg (opv h s)] w (RetOwn h (gon a h.n0 xs s) l w):=by
 have TOwn:=fun w (L:Lists lo2 w h l)=>Lib.hid (own_any (s:=s) L hn h1 h2 h3)
 have hx:=Lib.hid (L.i0.uniq hI)
 have hL:=L
 clear L
 have TO:=fun w lo A0 c0 A1 c1 A2 c2 A3 c3 (hI:IS .u32 lo w A0 h.n0 c0 xs)=>Lib.hid (onward_any (w:=w) (sh:=sh) (wo:=wo) (qu:=qu) (tr:=tr) (A:=A) (n:=n) (c:=c) (h:=⟨A0,h.n0,c0,A1,h.n1,c1,A2,h.n2,c2,A3,h.n3,c3⟩) (s:=s) ha hM hn hI hin)
 obtain ⟨s2,hs2⟩:∃ s2,s2=gon a h.n0 xs s:=⟨_,rfl⟩
 simp only [← hs2] at TO ⊢
 clear hs2 hin hI
 rcases s with ⟨kind,addr,err,aad,used,phase,shard,sought,leaf,bit,word,full,at_,tries,item,stamp⟩
 rcases h with ⟨A0,n0,c0,A1,n1,c1,A2,n2,c2,A3,n3,c3⟩
 dsimp only at *
 go_enter Tryz.func160,Tryz.ntmps160
 go_upto_region 1 with (fail)
 have L:=Loc.start w
 generalize hal:World.alloc _ _=w1
 replace L:=L.a3 hal
 clear hal
 replace L:=L.is0 (opv hd0 sc0) rfl
 generalize w.heap.size+1+1=gR at L ⊢
 generalize w.heap.size+1=gO at L ⊢
 generalize w.heap.size=gH at L ⊢
 replace L:=L.drew
 refine wp_region_held_drew (S:=fun w'=>∃ v_R:Array Value,v_R.size=20∧Loc w w' [(gR,43,v_R),(gO,43,opv ⟨A0,n0,c0,A1,n1,c1,A2,n2,c2,A3,n3,c3⟩ ⟨kind,addr,err,aad,used,phase,shard,sought,leaf,bit,word,full,at_,tries,item,stamp⟩),(gH,27,#[.int .u32 (a:Int),.int .i64 p,.slice A n c,.int .i64 sh,.int .i64 wo,.int .i64 qu,.int .i64 tr])] []) (by kernel_rfl) (⟨_,rfl,L⟩) (fun hHeld=>?_)
 generalize w1.drew=v2 at hHeld L ⊢
 refine tl 0 5 (.agg (#[.int .u32 (a:Int),.int .i64 p,.slice A n c,.int .i64 sh,.int .i64 wo,.int .i64 qu,.int .i64 tr])) rfl (yieldsIf_load_row (by rfl) 27 (.tmp 2) rfl gH rfl 27 _ (0,0) _ (fun _ hS=>((hS.choose_spec.2).bk_ 2 rfl)) Tryz.underlying27 rfl cf_sz) hHeld ?_
 refine tl 1 6 (.agg (opv ⟨A0,n0,c0,A1,n1,c1,A2,n2,c2,A3,n3,c3⟩ ⟨kind,addr,err,aad,used,phase,shard,sought,leaf,bit,word,full,at_,tries,item,stamp⟩)) rfl (yieldsIf_load_row (by rfl) 43 (.tmp 3) rfl gO rfl 43 _ (0,0) _ (fun _ hS=>((hS.choose_spec.2).bk_ 1 rfl)) Tryz.underlying43 rfl op_sz) hHeld ?_
 refine rd 2 7 rfl fun K0 hK=>?_
 have KS:=L.K.size
 have LbO:=L.gs
 go_simp
 refine ((TOwn _ (hL.below L.K)).out).mono ?_
 rintro e w3 ⟨A0',c0',A1',c1',A2',c2',A3',c3',rfl,L',K'⟩
 have Lb:=L.lts
 replace L:=L.over K'
 replace L:=L.lists Lb L'
 replace L:=L.sz K'.size
 clear Lb
 try dsimp only [lF,List.cons_append,List.nil_append] at L
 clear L'
 refine hK.out _ _ ⟨_,rfl,(L.less 5)⟩ ?_
 clear hHeld hK K0
 intro hHeld
 clear K'
 try dsimp only
 refine rd 3 8 rfl fun K0 hK=>?_
 go_simp
 refine ((TO _ _ _ _ _ _ _ _ _ _ ((L.lists_at 1 rfl).asked hx.out)).out).mono ?_
 rintro e w4 ⟨rfl,K'⟩
 replace L:=L.over K'
 refine hK.out _ _ ⟨_,rfl,(L.less 5)⟩ ?_
 clear hHeld hK K0
 intro hHeld
 clear K'
 try simp only [Act.put,sA,sZ,sS]
 refine rn 4 rfl fun K0 hK=>?_
 rw [if_pos (by rfl)]
 refine wp_store_row 43 (.tmp 4) (.tmp 8) rfl gR _ rfl rfl _ _ (L.bk_ 0 rfl) op_sz rfl (opv_one _ _) ?_
 replace L:=L.row 0 rfl (opv ⟨A0',n0,c0',A1',n1,c1',A2',n2,c2',A3',n3,c3'⟩ s2)
 try dsimp only [nput] at L
 refine hK.out _ _ ⟨_,rfl,(L.less 5)⟩ ?_
 clear hHeld hK K0
 intro hHeld
 generalize w4.setRow gR (opv ⟨A0',n0,c0',A1',n1,c1',A2',n2,c2',A3',n3,c3'⟩ s2)=v5 at hHeld L ⊢
 try simp only [Act.put]
 refine wpAnyH_done (by kernel_rfl) ?_ _
 clear hHeld
 go_wp2
 refine eC Tryz.results160 (L.bk_ 0 rfl) ?_
 exact ⟨_,_,_,_,_,_,_,_,rfl,(L.lists_at 1 rfl).lower_ KS,L.K⟩
end
end Go.Proofs.YtfhefofkhmkcnaaGreatDoor

/-
 What each function of package shard answers,for numbers of addresses up to 65536 and 1 to 64 shards: nothing that was there is otherwise.
-/
namespace Go.Proofs.YtfhefofkhmkcnaaGreatDoor
set_option maxRecDepth 100000
set_option maxRecDepth 100000
open Go.RowKit
set_option maxHeartbeats 8000000
/-- Where the shard s begins. -/
def ct (L p s:Nat):Nat:=s*L/p
theorem ct_mono {L p s t:Nat} (h:s≤t):ct L p s≤ct L p t:=Nat.div_le_div_right (Nat.mul_le_mul_right L h)
theorem ct_all {L p:Nat} (hp:1≤p):ct L p p=L:=by unfold ct;exact Nat.mul_div_cancel_left L hp
theorem smany_any (p:Nat) (h1:1≤p) (h2:p≤64) (w:World) :
  Calls Tryz.prog 155 #[.int .i64 p] w fun e w'=>e=.returned (.int .i64 p)∧w=w':=by
 go_enter Tryz.func155,Tryz.ntmps155
 go_wp2
 all_goals
  go_ret
  exact ⟨ret_int (by omega),rfl⟩
theorem from_any (p h k:Nat) (h1:1≤p) (h2:p≤64) (hh:h<p) (hk:k≤4000000) (w:World) :
  Calls Tryz.prog 138 #[.int .i64 p,.int .i64 h,.int .i64 k] w fun e w'=>e=.returned (.int .i64 (((h+k)%p:Nat)))∧w=w':=by
 have hr2:=Nat.mod_lt k h1
 have hr:=(Int.natCast_emod k p).symm
 have hq:((h:Int)+(k%p:Nat))%(p:Int)=(((h+k)%p:Nat):Int):=by
  rw [← Nat.add_mod_mod h k p];exact (Int.natCast_emod (h+k%p) p).symm
 generalize (h+k)%p=q at *
 generalize k%p=r at *
 go_enter Tryz.func138,Tryz.ntmps138
 go_wp2_with ((with_reducible refine (smany_any _ h1 h2 _).mono ?_);rintro e w' ⟨rfl,rfl⟩)
 go_ret
 exact ⟨ret_int hq,rfl⟩
theorem part_any (L p s:Nat) (h1:1≤p) (h2:p≤64) (hL:L≤2048) (hs:s<p) (w:World) :
  Calls Tryz.prog 154 #[.int .i64 L,.int .i64 p,.int .i64 s] w fun e w'=>e=.returned (.agg #[.int .i64 (ct L p s),.int .i64 (ct L p (s+1))])∧Below w.heap.size w w':=by
 have hA:s*L≤64*2048:=Nat.mul_le_mul (by omega) hL
 have hB:(s+1)*L≤64*2048:=Nat.mul_le_mul (by omega) hL
 have e1:(s:Int)*L=(s*L:Nat):=(Int.natCast_mul s L).symm
 have e2:((s:Int)+1)*L=((s+1)*L:Nat):=(Int.natCast_mul (s+1) L).symm
 have e3:=(Int.natCast_ediv (s*L) p).symm
 have e4:=(Int.natCast_ediv ((s+1)*L) p).symm
 have k1:=Nat.div_le_self (s*L) p
 have k2:=Nat.div_le_self ((s+1)*L) p
 unfold ct
 generalize s*L/p=q at *
 generalize (s+1)*L/p=q' at *
 generalize s*L=m at *
 generalize (s+1)*L=m' at *
 go_enter Tryz.func154,Tryz.ntmps154
 go_wp2
 go_region
 go_wp2
 exact bodyPost_ret (v:=.agg #[.int .i64 q,.int .i64 q']) (by simp [results,Tryz.results154,go_sem]) rfl ⟨rfl,(below_alloc _ _).drew⟩
def RetII (a b:Nat) (w:World) (e:Ending) (w':World):Prop:=e=.returned (.tuple #[.int .i64 a,.int .i64 b])∧Below w.heap.size w w'
theorem range_any (n p s:Nat) (hn:n≤65536) (h1:1≤p) (h2:p≤64) (hs:s<p) (w:World) :
  Calls Tryz.prog 137 #[.int .i64 n,.int .i64 p,.int .i64 s] w (RetII (ct (lv n) p s) (ct (lv n) p (s+1)) w):=by
 have T0:=fun w=>Lib.hid (leaves_any n hn w)
 have T1:=fun w=>Lib.hid (smany_any p h1 h2 w)
 have T2:=fun w=>Lib.hid (part_any (lv n) p s h1 h2 (lv_le hn) hs w)
 generalize ct (lv n) p s=q at *
 generalize ct (lv n) p (s+1)=q' at *
 generalize lv n=L at *
 go_enter Tryz.func137,Tryz.ntmps137
 go_wp2_with (first
  | ((with_reducible refine ((T0 _).out).mono ?_);rintro e w' ⟨rfl,rfl⟩)
  | ((with_reducible refine ((T1 _).out).mono ?_);rintro e w' ⟨rfl,rfl⟩)
  | ((with_reducible refine ((T2 _).out).mono ?_);rintro e w' ⟨rfl,K⟩))
 go_region
 go_wp2
 go_ret2
 exact ⟨rfl,(Below.then_ K (below_alloc _ _)).drew⟩
end Go.Proofs.YtfhefofkhmkcnaaGreatDoor

/-
 A whole block read where a guard lets it;the program isn't named here.
-/
namespace Go.Proofs.YtfhefofkhmkcnaaGreatDoor
set_option maxRecDepth 100000
set_option maxRecDepth 100000
open Go.RowKit
set_option maxHeartbeats 8000000
theorem wpList_load_want {P:Program} {ops:Array Oper} {rest:List Oper} {o:Oper} {a:Act} {w:World} {Q:Exit→Act→World→Prop} (hw:Region.wanted o (yielded ops a.tmps)=true) (ty:TypeId) (x:Operand) (ho:o.op=.load ty x)
  (g:Nat) (hx:a.eval x=.pointer (some ⟨g,0,none⟩)) (t:TypeId) (cs:Array Value) (fr:Nat×Nat) (d:TypeDesc) (hg:w.heap[g]? = some (.cells cs t fr))
  (hu:P.underlying ty=some d) (hd:(match d with | .struct _ | .array _ _=>true | _=>false)=true) (hi:(P.info? ty).map (·.size)=some cs.size)
  (h:wpList P ops Q rest (a.put o.dst (.agg cs)) w):wpList P ops Q (o :: rest) a w :=
 wpList_step fun K hK=>by
  rw [if_pos hw]
  exact wp_load_row ty x ho g hx t cs fr d hg hu hd hi (hK _ _ h)
end Go.Proofs.YtfhefofkhmkcnaaGreatDoor

/-
 What a law is told of an operation that came in: its numbers,and the rows of its lists.
-/
namespace Go.Proofs.YtfhefofkhmkcnaaGreatDoor
set_option maxRecDepth 100000
set_option maxHeartbeats 8000000
set_option maxRecDepth 100000
open Go.ChangeShapes Go.WideShapes Go.ChangeAt Go.RowKit Go.Joins
set_option linter.unusedVariables false
theorem array20 {α:Type} {cs:Array α} (h:cs.size=20):∃ c0 c1 c2 c3 c4 c5 c6 c7 c8 c9 c10 c11 c12 c13 c14 c15 c16 c17 c18 c19,cs=#[c0,c1,c2,c3,c4,c5,c6,c7,c8,c9,c10,c11,c12,c13,c14,c15,c16,c17,c18,c19]:=by
 obtain ⟨l⟩:=cs
 match l,h with
 | [c0,c1,c2,c3,c4,c5,c6,c7,c8,c9,c10,c11,c12,c13,c14,c15,c16,c17,c18,c19],_=>exact ⟨c0,c1,c2,c3,c4,c5,c6,c7,c8,c9,c10,c11,c12,c13,c14,c15,c16,c17,c18,c19,rfl⟩
theorem trod_struct3x {H:Type} {enc:TypeId×Value→H} {P:Program} {w:World} {base:Nat} {spare:Nat→Bool} {held:Bool} {t:TypeId} {f0 f1 f2:Field} {fuel:Nat} {cs:List Value} {x:DataW H×List MemPlace} (ht:P.underlying t=some (.struct #[f0,f1,f2])) (h:DataW.trod enc P w base spare held fuel t cs=some x) :
  ∃ y0 y1 y2 n,DataW.trod enc P w base spare held n f0.type ((cs.drop f0.offset).take (P.cellsOf f0.type))=some y0∧DataW.trod enc P w base spare held n f1.type ((cs.drop f1.offset).take (P.cellsOf f1.type))=some y1∧DataW.trod enc P w base spare held n f2.type ((cs.drop f2.offset).take (P.cellsOf f2.type))=some y2:=by
 obtain ⟨xs,n,_,_,_,hlen,hf⟩:=DataW.trod_struct ht h
 match xs,hlen with
 | [y0,y1,y2],_=>exact ⟨y0,y1,y2,n,by simpa using hf 0 f0 rfl,by simpa using hf 1 f1 rfl,by simpa using hf 2 f2 rfl⟩
theorem trod_struct5x {H:Type} {enc:TypeId×Value→H} {P:Program} {w:World} {base:Nat} {spare:Nat→Bool} {held:Bool} {t:TypeId} {f0 f1 f2 f3 f4:Field} {fuel:Nat} {cs:List Value} {x:DataW H×List MemPlace} (ht:P.underlying t=some (.struct #[f0,f1,f2,f3,f4])) (h:DataW.trod enc P w base spare held fuel t cs=some x) :
  ∃ y0 y1 y2 y3 y4 n,DataW.trod enc P w base spare held n f0.type ((cs.drop f0.offset).take (P.cellsOf f0.type))=some y0∧DataW.trod enc P w base spare held n f1.type ((cs.drop f1.offset).take (P.cellsOf f1.type))=some y1∧DataW.trod enc P w base spare held n f2.type ((cs.drop f2.offset).take (P.cellsOf f2.type))=some y2∧DataW.trod enc P w base spare held n f3.type ((cs.drop f3.offset).take (P.cellsOf f3.type))=some y3∧DataW.trod enc P w base spare held n f4.type ((cs.drop f4.offset).take (P.cellsOf f4.type))=some y4:=by
 obtain ⟨xs,n,_,_,_,hlen,hf⟩:=DataW.trod_struct ht h
 match xs,hlen with
 | [y0,y1,y2,y3,y4],_=>exact ⟨y0,y1,y2,y3,y4,n,by simpa using hf 0 f0 rfl,by simpa using hf 1 f1 rfl,by simpa using hf 2 f2 rfl,by simpa using hf 3 f3 rfl,by simpa using hf 4 f4 rfl⟩
theorem trod_struct14x {H:Type} {enc:TypeId×Value→H} {P:Program} {w:World} {base:Nat} {spare:Nat→Bool} {held:Bool} {t:TypeId} {f0 f1 f2 f3 f4 f5 f6 f7 f8 f9 f10 f11 f12 f13:Field} {fuel:Nat} {cs:List Value} {x:DataW H×List MemPlace} (ht:P.underlying t=some (.struct #[f0,f1,f2,f3,f4,f5,f6,f7,f8,f9,f10,f11,f12,f13])) (h:DataW.trod enc P w base spare held fuel t cs=some x) :
  ∃ y0 y1 y2 y3 y4 y5 y6 y7 y8 y9 y10 y11 y12 y13 n,DataW.trod enc P w base spare held n f0.type ((cs.drop f0.offset).take (P.cellsOf f0.type))=some y0∧DataW.trod enc P w base spare held n f1.type ((cs.drop f1.offset).take (P.cellsOf f1.type))=some y1∧DataW.trod enc P w base spare held n f2.type ((cs.drop f2.offset).take (P.cellsOf f2.type))=some y2∧DataW.trod enc P w base spare held n f3.type ((cs.drop f3.offset).take (P.cellsOf f3.type))=some y3∧DataW.trod enc P w base spare held n f4.type ((cs.drop f4.offset).take (P.cellsOf f4.type))=some y4∧DataW.trod enc P w base spare held n f5.type ((cs.drop f5.offset).take (P.cellsOf f5.type))=some y5∧DataW.trod enc P w base spare held n f6.type ((cs.drop f6.offset).take (P.cellsOf f6.type))=some y6∧DataW.trod enc P w base spare held n f7.type ((cs.drop f7.offset).take (P.cellsOf f7.type))=some y7∧DataW.trod enc P w base spare held n f8.type ((cs.drop f8.offset).take (P.cellsOf f8.type))=some y8∧DataW.trod enc P w base spare held n f9.type ((cs.drop f9.offset).take (P.cellsOf f9.type))=some y9∧DataW.trod enc P w base spare held n f10.type ((cs.drop f10.offset).take (P.cellsOf f10.type))=some y10∧DataW.trod enc P w base spare held n f11.type ((cs.drop f11.offset).take (P.cellsOf f11.type))=some y11∧DataW.trod enc P w base spare held n f12.type ((cs.drop f12.offset).take (P.cellsOf f12.type))=some y12∧DataW.trod enc P w base spare held n f13.type ((cs.drop f13.offset).take (P.cellsOf f13.type))=some y13:=by
 obtain ⟨xs,n,_,_,_,hlen,hf⟩:=DataW.trod_struct ht h
 match xs,hlen with
 | [y0,y1,y2,y3,y4,y5,y6,y7,y8,y9,y10,y11,y12,y13],_=>exact ⟨y0,y1,y2,y3,y4,y5,y6,y7,y8,y9,y10,y11,y12,y13,n,by simpa using hf 0 f0 rfl,by simpa using hf 1 f1 rfl,by simpa using hf 2 f2 rfl,by simpa using hf 3 f3 rfl,by simpa using hf 4 f4 rfl,by simpa using hf 5 f5 rfl,by simpa using hf 6 f6 rfl,by simpa using hf 7 f7 rfl,by simpa using hf 8 f8 rfl,by simpa using hf 9 f9 rfl,by simpa using hf 10 f10 rfl,by simpa using hf 11 f11 rfl,by simpa using hf 12 f12 rfl,by simpa using hf 13 f13 rfl⟩
theorem open_row {H:Type} {enc:TypeId×Value→H} {W:World} {k:IntKind} {t e:TypeId} {c:Value} {fuel:Nat} {x:DataW H×List MemPlace} (ht:Tryz.prog.underlying t=some (.slice e)) (he:Tryz.prog.underlying e=some (.int k)) (hC:Tryz.prog.cellsOf e=1)
  (h:DataW.trod enc Tryz.prog W 0 (fun _=>true) true fuel t [c]=some x):∃ A n d z,c=.slice A n d∧IsRow k W A n d z:=by
 rcases open_ints ht he hC h with ⟨hcs,_⟩ | ⟨a,l,d,zs,hcs,_,hl,hm,hz,_,hcell,hwz⟩
 ·simp only [List.cons.injEq,and_true] at hcs
  exact ⟨none,0,0,[],hcs,.inl ⟨rfl,rfl,rfl,rfl⟩⟩
 ·simp only [List.cons.injEq,and_true] at hcs
  exact ⟨_,_,_,zs,hcs,.inr ⟨_,rfl,hl,hm,by simpa using hz,hcell,hwz⟩⟩
theorem open_op {H:Type} {enc:TypeId×Value→H} {W:World} {base:Nat} {v:Value} {d:DataW H} {ps:List MemPlace} (hv:Value.okWide Tryz.prog W .any base 43 v) (h:DataW.Trod enc Tryz.prog W 0 (fun _=>true) true 43 v d ps) :
  ∃ (hd:Hd) (s:Sc) (z0 z1 z2 z3:List Int),v=.agg (opv hd s)∧s.word<18446744073709551616∧IsRow .u32 W hd.A0 hd.n0 hd.c0 z0∧IsRow .u32 W hd.A1 hd.n1 hd.c1 z1∧IsRow .i64 W hd.A2 hd.n2 hd.c2 z2∧IsRow .u64 W hd.A3 hd.n3 hd.c3 z3:=by
 obtain ⟨cs,rfl,hsz⟩:=okWide_struct Tryz.underlying43 hv
 have hC:Tryz.prog.cellsOf 43 = 20:=by kernel_rfl
 obtain ⟨c0,c1,c2,c3,c4,c5,c6,c7,c8,c9,c10,c11,c12,c13,c14,c15,c16,c17,c18,c19,rfl⟩:=array20 (hsz.trans hC)
 obtain ⟨fuel,hf⟩:=h
 obtain ⟨y0,y1,y2,y3,y4,y5,y6,y7,y8,y9,y10,y11,y12,y13,n,f0,f1,f2,f3,f4,f5,f6,f7,f8,f9,f10,f11,f12,f13⟩:=trod_struct14x Tryz.underlying43 hf
 have k31:Tryz.prog.cellsOf 30 = 3:=by kernel_rfl
 have k35:Tryz.prog.cellsOf 40 = 5:=by kernel_rfl
 have k3:Tryz.prog.cellsOf 3 = 1:=by kernel_rfl
 have k36:Tryz.prog.cellsOf 41 = 1:=by kernel_rfl
 have k4:Tryz.prog.cellsOf 4 = 1:=by kernel_rfl
 have k28:Tryz.prog.cellsOf 34 = 1:=by kernel_rfl
 have k22:Tryz.prog.cellsOf 22 = 1:=by kernel_rfl
 have k29:Tryz.prog.cellsOf 28 = 1:=by kernel_rfl
 have k32:Tryz.prog.cellsOf 37 = 1:=by kernel_rfl
 have k33:Tryz.prog.cellsOf 38 = 1:=by kernel_rfl
 simp only [Value.cells,k31,k35,k3,k36,k4,k28,List.drop_zero,List.drop_succ_cons,List.take_succ_cons,List.take_zero] at f0 f1 f2 f3 f4 f5 f6 f7 f8 f9 f10 f11 f12 f13
 obtain ⟨u0,u1,u2,m,g0,g1,g2⟩:=trod_struct3x Tryz.underlying30 f0
 obtain ⟨v0,v1,v2,v3,v4,m',q0,q1,q2,q3,q4⟩:=trod_struct5x Tryz.underlying40 f1
 simp only [k3,k4,k22,k29,k32,k33,List.drop_zero,List.drop_succ_cons,List.take_succ_cons,List.take_zero] at g0 g1 g2 q0 q1 q2 q3 q4
 obtain ⟨kind,e_kind,_,w_kind⟩:=DataW.trod_int Tryz.underlying3 g0
 obtain ⟨addr,e_addr,_,w_addr⟩:=DataW.trod_int Tryz.underlying22 g1
 obtain ⟨err,e_err,_,w_err⟩:=DataW.trod_int Tryz.underlying37 q0
 obtain ⟨aad,e_aad,_,w_aad⟩:=DataW.trod_int Tryz.underlying22 q1
 obtain ⟨phase,e_phase,_,w_phase⟩:=DataW.trod_int Tryz.underlying3 f2
 obtain ⟨shard,e_shard,_,w_shard⟩:=DataW.trod_int Tryz.underlying3 f3
 obtain ⟨sought,e_sought,_,w_sought⟩:=DataW.trod_int Tryz.underlying3 f4
 obtain ⟨leaf,e_leaf,_,w_leaf⟩:=DataW.trod_int Tryz.underlying3 f5
 obtain ⟨bit,e_bit,_,w_bit⟩:=DataW.trod_int Tryz.underlying3 f6
 obtain ⟨word,e_word,_,w_word⟩:=DataW.trod_int Tryz.underlying41 f7
 obtain ⟨at_,e_at_,_,w_at_⟩:=DataW.trod_int Tryz.underlying3 f10
 obtain ⟨tries,e_tries,_,w_tries⟩:=DataW.trod_int Tryz.underlying3 f11
 obtain ⟨item,e_item,_,w_item⟩:=DataW.trod_int Tryz.underlying3 f12
 obtain ⟨stamp,e_stamp,_,w_stamp⟩:=DataW.trod_int Tryz.underlying3 f13
 obtain ⟨used,e_used,_⟩:=DataW.trod_bool Tryz.underlying4 q2
 obtain ⟨full,e_full,_⟩:=DataW.trod_bool Tryz.underlying4 f8
 obtain ⟨A0,n0,d0,z0,e_s0,r0⟩:=open_row (k:=.u32) Tryz.underlying28 Tryz.underlying22 k22 g2
 obtain ⟨A1,n1,d1,z1,e_s1,r1⟩:=open_row (k:=.u32) Tryz.underlying28 Tryz.underlying22 k22 q3
 obtain ⟨A2,n2,d2,z2,e_s2,r2⟩:=open_row (k:=.i64) Tryz.underlying38 Tryz.underlying37 k32 q4
 obtain ⟨A3,n3,d3,z3,e_s3,r3⟩:=open_row (k:=.u64) Tryz.underlying34 Tryz.underlying41 k36 f9
 simp only [List.cons.injEq,and_true] at e_kind e_addr e_err e_aad e_phase e_shard e_sought e_leaf e_bit e_word e_at_ e_tries e_item e_stamp e_used e_full
 obtain ⟨X,rfl,hX⟩:=wf_U64 w_word
 subst e_kind e_addr e_err e_aad e_phase e_shard e_sought e_leaf e_bit e_word e_at_ e_tries e_item e_stamp e_used e_full e_s0 e_s1 e_s2 e_s3
 exact ⟨⟨A0,n0,d0,A1,n1,d1,A2,n2,d2,A3,n3,d3⟩,⟨kind,addr,err,aad,used,phase,shard,sought,leaf,bit,X,full,at_,tries,item,stamp⟩,z0,z1,z2,z3,rfl,hX,r0,r1,r2,r3⟩
end Go.Proofs.YtfhefofkhmkcnaaGreatDoor

/-
 The document's Addrs,Errs,Asks,Answers and Same answer true of two that hold the same. Conditions: at most 65536 items a list.
-/
namespace Go.Proofs.YtfhefofkhmkcnaaGreatDoor
set_option maxRecDepth 100000
set_option maxRecDepth 100000
open Go.RowKit
set_option maxHeartbeats 8000000
set_option linter.unusedVariables false
theorem addrs_same {w:World} {lo lo':Nat} {A A':Option Addr} {n c c':Nat} {xs:List Int} (h:IS .u32 lo w A n c xs) (h':IS .u32 lo' w A' n c' xs) (hn:n≤65536) :
  Calls Tryz.prog 50 #[.slice A n c,.slice A' n c'] w (RetBo true w):=by
 have e0:((n:Int) != (n:Int))=false:=by simp
 go_enter Tryz.func50,Tryz.ntmps50
 go_wp2
 go_loopw [5] (fun i wr=>∃ k:Nat,k≤n∧i=.int .i64 k∧Below w.heap.size w wr) (fun i _=>n - (intOf i).toNat)
 case atStart=>exact ⟨0,Nat.zero_le _,rfl,Below.refl _ _⟩
 case round =>
  obtain ⟨k,hk,rfl,Kr⟩:=hrel
  by_cases hlt:k<n
  ·obtain ⟨b,o,rfl,_,hc⟩:=(h.below Kr).get hlt
   obtain ⟨b',o',rfl,_,hc'⟩:=(h'.below Kr).get hlt
   generalize gi xs k=y at hc hc'
   have e1:(y != y)=false:=by simp
   go_wp2
   go_quiet (fail)
   go_wp2
   go_roundw
   case rel=>exact ⟨k+1,by omega,by go_num,Kr.trans ((drewN_below _ _).mono Kr.size)⟩
   case measure=>simp [intOf];omega
  ·go_wp2
   go_ret
   exact ⟨rfl,Kr⟩
theorem errs_same {w:World} {lo lo':Nat} {A A':Option Addr} {n c c':Nat} {xs:List Int} (h:IS .i64 lo w A n c xs) (h':IS .i64 lo' w A' n c' xs) (hn:n≤65536) :
  Calls Tryz.prog 51 #[.slice A n c,.slice A' n c'] w (RetBo true w):=by
 have e0:((n:Int) != (n:Int))=false:=by simp
 go_enter Tryz.func51,Tryz.ntmps51
 go_wp2
 go_loopw [5] (fun i wr=>∃ k:Nat,k≤n∧i=.int .i64 k∧Below w.heap.size w wr) (fun i _=>n - (intOf i).toNat)
 case atStart=>exact ⟨0,Nat.zero_le _,rfl,Below.refl _ _⟩
 case round =>
  obtain ⟨k,hk,rfl,Kr⟩:=hrel
  by_cases hlt:k<n
  ·obtain ⟨b,o,rfl,_,hc⟩:=(h.below Kr).get hlt
   obtain ⟨b',o',rfl,_,hc'⟩:=(h'.below Kr).get hlt
   generalize gi xs k=y at hc hc'
   have e1:(y != y)=false:=by simp
   go_wp2
   go_quiet (fail)
   go_wp2
   go_roundw
   case rel=>exact ⟨k+1,by omega,by go_num,Kr.trans ((drewN_below _ _).mono Kr.size)⟩
   case measure=>simp [intOf];omega
  ·go_wp2
   go_ret
   exact ⟨rfl,Kr⟩
theorem asks_same {w:World} {lo lo':Nat} {kind addr:Int} {A0 B0:Option Addr} {n0 c0 e0:Nat} {xs:List Int} (h:IS .u32 lo w A0 n0 c0 xs) (h':IS .u32 lo' w B0 n0 e0 xs) (hn:n0≤65536) :
  Calls Tryz.prog 52 #[.agg #[.int .i64 kind,.int .u32 addr,.slice A0 n0 c0],.agg #[.int .i64 kind,.int .u32 addr,.slice B0 n0 e0]] w (RetBo true w):=by
 go_enter Tryz.func52,Tryz.ntmps52
 go_upto_region 1 with (fail)
 have K:=below_alloc w (.cells #[.int .i64 kind,.int .u32 addr,.slice A0 n0 c0] 30)
 have X:Bk (World.alloc (w) (.cells #[.int .i64 kind,.int .u32 addr,.slice A0 n0 c0] 30)) (World.heap (w)).size 30 (#[.int .i64 kind,.int .u32 addr,.slice A0 n0 c0]):=Bk.new _ _ _
 replace X:=X.alloc (.cells #[.int .i64 kind,.int .u32 addr,.slice B0 n0 e0] 30)
 replace K:=Below.then_ K (below_alloc _ (.cells #[.int .i64 kind,.int .u32 addr,.slice B0 n0 e0] 30))
 have Y:Bk (World.alloc ((w).alloc (.cells #[.int .i64 kind,.int .u32 addr,.slice A0 n0 c0] 30)) (.cells #[.int .i64 kind,.int .u32 addr,.slice B0 n0 e0] 30)) (World.heap ((w).alloc (.cells #[.int .i64 kind,.int .u32 addr,.slice A0 n0 c0] 30))).size 30 (#[.int .i64 kind,.int .u32 addr,.slice B0 n0 e0]):=Bk.new _ _ _
 try simp only [World.size_alloc] at X Y
 generalize ((w).alloc (.cells #[.int .i64 kind,.int .u32 addr,.slice A0 n0 c0] 30)).alloc (.cells #[.int .i64 kind,.int .u32 addr,.slice B0 n0 e0] 30)=w1 at X Y K ⊢
 obtain ⟨gY,hgY⟩:∃ g,g=w.heap.size+1:=⟨_,rfl⟩
 rw [← hgY] at Y ⊢
 obtain ⟨gX,hgX⟩:∃ g,g=w.heap.size:=⟨_,rfl⟩
 rw [← hgX] at X ⊢
 have X_b:w.heap.size≤gX:=by omega
 have Y_b:w.heap.size≤gY:=by omega
 have ne_X_Y:gX≠gY:=by omega
 clear hgX hgY
 have X_0:=X.at_ (v:=.int .i64 kind) 0 rfl
 have X_1:=X.at_ (v:=.int .u32 addr) 1 rfl
 have X_2:=X.at_ (v:=.slice A0 n0 c0) 2 rfl
 have X_z:=X.lt
 have Y_0:=Y.at_ (v:=.int .i64 kind) 0 rfl
 have Y_1:=Y.at_ (v:=.int .u32 addr) 1 rfl
 have Y_2:=Y.at_ (v:=.slice B0 n0 e0) 2 rfl
 have Y_z:=Y.lt
 have f1:(kind == kind)=true:=by simp
 have f2:(addr == addr)=true:=by simp
 go_wp2_with fail
 refine (addrs_same (h.below K) (h'.below K) hn).mono ?_
 rintro e w2 ⟨rfl,K'⟩
 replace K:=Below.then_ K K'
 go_wp2
 go_ret
 exact ⟨rfl,K⟩
theorem answers_same {w:World} {lo lo':Nat} {err aad:Int} {used:Bool} {A1 B1 A2 B2:Option Addr} {n1 c1 e1 n2 c2 e2:Nat} {ads ers:List Int} (h1:IS .u32 lo w A1 n1 c1 ads) (h1':IS .u32 lo' w B1 n1 e1 ads) (h2:IS .i64 lo w A2 n2 c2 ers) (h2':IS .i64 lo' w B2 n2 e2 ers) (hn1:n1≤65536) (hn2:n2≤65536) :
  Calls Tryz.prog 21 #[.agg #[.int .i64 err,.int .u32 aad,.bool used,.slice A1 n1 c1,.slice A2 n2 c2],.agg #[.int .i64 err,.int .u32 aad,.bool used,.slice B1 n1 e1,.slice B2 n2 e2]] w (RetBo true w):=by
 go_enter Tryz.func21,Tryz.ntmps21
 go_upto_region 1 with (fail)
 have K:=below_alloc w (.cells #[.int .i64 err,.int .u32 aad,.bool used,.slice A1 n1 c1,.slice A2 n2 c2] 40)
 have X:Bk (World.alloc (w) (.cells #[.int .i64 err,.int .u32 aad,.bool used,.slice A1 n1 c1,.slice A2 n2 c2] 40)) (World.heap (w)).size 40 (#[.int .i64 err,.int .u32 aad,.bool used,.slice A1 n1 c1,.slice A2 n2 c2]):=Bk.new _ _ _
 replace X:=X.alloc (.cells #[.int .i64 err,.int .u32 aad,.bool used,.slice B1 n1 e1,.slice B2 n2 e2] 40)
 replace K:=Below.then_ K (below_alloc _ (.cells #[.int .i64 err,.int .u32 aad,.bool used,.slice B1 n1 e1,.slice B2 n2 e2] 40))
 have Y:Bk (World.alloc ((w).alloc (.cells #[.int .i64 err,.int .u32 aad,.bool used,.slice A1 n1 c1,.slice A2 n2 c2] 40)) (.cells #[.int .i64 err,.int .u32 aad,.bool used,.slice B1 n1 e1,.slice B2 n2 e2] 40)) (World.heap ((w).alloc (.cells #[.int .i64 err,.int .u32 aad,.bool used,.slice A1 n1 c1,.slice A2 n2 c2] 40))).size 40 (#[.int .i64 err,.int .u32 aad,.bool used,.slice B1 n1 e1,.slice B2 n2 e2]):=Bk.new _ _ _
 try simp only [World.size_alloc] at X Y
 generalize ((w).alloc (.cells #[.int .i64 err,.int .u32 aad,.bool used,.slice A1 n1 c1,.slice A2 n2 c2] 40)).alloc (.cells #[.int .i64 err,.int .u32 aad,.bool used,.slice B1 n1 e1,.slice B2 n2 e2] 40)=w1 at X Y K ⊢
 obtain ⟨gY,hgY⟩:∃ g,g=w.heap.size+1:=⟨_,rfl⟩
 rw [← hgY] at Y ⊢
 obtain ⟨gX,hgX⟩:∃ g,g=w.heap.size:=⟨_,rfl⟩
 rw [← hgX] at X ⊢
 have X_b:w.heap.size≤gX:=by omega
 have Y_b:w.heap.size≤gY:=by omega
 have ne_X_Y:gX≠gY:=by omega
 clear hgX hgY
 have X_0:=X.at_ (v:=.int .i64 err) 0 rfl
 have X_1:=X.at_ (v:=.int .u32 aad) 1 rfl
 have X_2:=X.at_ (v:=.bool used) 2 rfl
 have X_3:=X.at_ (v:=.slice A1 n1 c1) 3 rfl
 have X_4:=X.at_ (v:=.slice A2 n2 c2) 4 rfl
 have X_z:=X.lt
 have Y_0:=Y.at_ (v:=.int .i64 err) 0 rfl
 have Y_1:=Y.at_ (v:=.int .u32 aad) 1 rfl
 have Y_2:=Y.at_ (v:=.bool used) 2 rfl
 have Y_3:=Y.at_ (v:=.slice B1 n1 e1) 3 rfl
 have Y_4:=Y.at_ (v:=.slice B2 n2 e2) 4 rfl
 have Y_z:=Y.lt
 have f1:(err == err)=true:=by simp
 have f2:(aad == aad)=true:=by simp
 have f3:(used == used)=true:=by simp
 go_wp2_with fail
 refine (addrs_same (h1.below K) (h1'.below K) hn1).mono ?_
 rintro e w2 ⟨rfl,K'⟩
 clear X_0 Y_0 X_1 Y_1 X_2 Y_2 X_3 Y_3 X_4 Y_4 X_z Y_z
 replace X:=X.below K'
 replace Y:=Y.below K'
 replace K:=Below.then_ K K'
 clear K'
 have X_0:=X.at_ (v:=.int .i64 err) 0 rfl
 have X_1:=X.at_ (v:=.int .u32 aad) 1 rfl
 have X_2:=X.at_ (v:=.bool used) 2 rfl
 have X_3:=X.at_ (v:=.slice A1 n1 c1) 3 rfl
 have X_4:=X.at_ (v:=.slice A2 n2 c2) 4 rfl
 have X_z:=X.lt
 have Y_0:=Y.at_ (v:=.int .i64 err) 0 rfl
 have Y_1:=Y.at_ (v:=.int .u32 aad) 1 rfl
 have Y_2:=Y.at_ (v:=.bool used) 2 rfl
 have Y_3:=Y.at_ (v:=.slice B1 n1 e1) 3 rfl
 have Y_4:=Y.at_ (v:=.slice B2 n2 e2) 4 rfl
 have Y_z:=Y.lt
 go_wp2_with fail
 refine (errs_same (h2.below K) (h2'.below K) hn2).mono ?_
 rintro e w3 ⟨rfl,K'⟩
 replace K:=Below.then_ K K'
 go_wp2
 go_ret
 exact ⟨rfl,K⟩
theorem sameop_any {w:World} {lo lo':Nat} {A0 A1 A2 A3 B0 B1 B2 B3:Option Addr} {n0 n1 n2 n3 c0 c1 c2 c3 e0 e1 e2 e3:Nat} {s:Sc} {l:Ls} {xs:List Int} (hI:IS .u32 0 w A0 n0 c0 xs) (hI':IS .u32 0 w B0 n0 e0 xs)
  (L:Lists lo w ⟨A0,n0,c0,A1,n1,c1,A2,n2,c2,A3,n3,c3⟩ l) (L':Lists lo' w ⟨B0,n0,e0,B1,n1,e1,B2,n2,e2,B3,n3,e3⟩ l) (hf:∀ x∈l.ses,(Lit.int .u64 x).wf=true) (hn0:n0≤65536) (hn1:n1≤65536) (hn2:n2≤65536) (hn3:n3≤65536) :
  Calls Tryz.prog 22 #[.agg (opv ⟨A0,n0,c0,A1,n1,c1,A2,n2,c2,A3,n3,c3⟩ s),.agg (opv ⟨B0,n0,e0,B1,n1,e1,B2,n2,e2,B3,n3,e3⟩ s)] w (RetBo true w):=by
 rcases s with ⟨kind,addr,err,aad,used,phase,shard,sought,leaf,bit,word,full,at_,tries,item,stamp⟩
 go_enter Tryz.func22,Tryz.ntmps22
 have f_phase:(phase == phase)=true:=by simp
 have f_shard:(shard == shard)=true:=by simp
 have f_sought:(sought == sought)=true:=by simp
 have f_leaf:(leaf == leaf)=true:=by simp
 have f_bit:(bit == bit)=true:=by simp
 have f_word:((word:Int) == (word:Int))=true:=by simp
 have f_full:(full == full)=true:=by simp
 have f_at_:(at_ == at_)=true:=by simp
 have f_tries:(tries == tries)=true:=by simp
 have f_item:(item == item)=true:=by simp
 have f_stamp:(stamp == stamp)=true:=by simp
 have K:=below_alloc w (.cells (opv ⟨A0,n0,c0,A1,n1,c1,A2,n2,c2,A3,n3,c3⟩ ⟨kind,addr,err,aad,used,phase,shard,sought,leaf,bit,word,full,at_,tries,item,stamp⟩) 43)
 have X:=Bk.new w (opv ⟨A0,n0,c0,A1,n1,c1,A2,n2,c2,A3,n3,c3⟩ ⟨kind,addr,err,aad,used,phase,shard,sought,leaf,bit,word,full,at_,tries,item,stamp⟩) 43
 replace X:=X.alloc (.cells (opv ⟨B0,n0,e0,B1,n1,e1,B2,n2,e2,B3,n3,e3⟩ ⟨kind,addr,err,aad,used,phase,shard,sought,leaf,bit,word,full,at_,tries,item,stamp⟩) 43)
 replace K:=Below.then_ K (below_alloc _ (.cells (opv ⟨B0,n0,e0,B1,n1,e1,B2,n2,e2,B3,n3,e3⟩ ⟨kind,addr,err,aad,used,phase,shard,sought,leaf,bit,word,full,at_,tries,item,stamp⟩) 43))
 have Y:=Bk.new (w.alloc (.cells (opv ⟨A0,n0,c0,A1,n1,c1,A2,n2,c2,A3,n3,c3⟩ ⟨kind,addr,err,aad,used,phase,shard,sought,leaf,bit,word,full,at_,tries,item,stamp⟩) 43)) (opv ⟨B0,n0,e0,B1,n1,e1,B2,n2,e2,B3,n3,e3⟩ ⟨kind,addr,err,aad,used,phase,shard,sought,leaf,bit,word,full,at_,tries,item,stamp⟩) 43
 simp only [World.size_alloc] at Y
 have X_0:=X.at_ (v:=.int .i64 (kind)) 0 rfl
 have Y_0:=Y.at_ (v:=.int .i64 (kind)) 0 rfl
 have X_1:=X.at_ (v:=.int .u32 (addr)) 1 rfl
 have Y_1:=Y.at_ (v:=.int .u32 (addr)) 1 rfl
 have X_2:=X.at_ (v:=.slice A0 n0 c0) 2 rfl
 have Y_2:=Y.at_ (v:=.slice B0 n0 e0) 2 rfl
 have X_z:=X.lt
 have Y_z:=Y.lt
 go_wp2_with fail
 refine (asks_same (hI.below K) (hI'.below K) hn0).mono ?_
 rintro e w1 ⟨rfl,K'⟩
 clear X_z Y_z X_0 Y_0 X_1 Y_1 X_2 Y_2
 replace X:=X.below K'
 replace Y:=Y.below K'
 replace K:=Below.then_ K K'
 clear K'
 have X_3:=X.at_ (v:=.int .i64 (err)) 3 rfl
 have Y_3:=Y.at_ (v:=.int .i64 (err)) 3 rfl
 have X_4:=X.at_ (v:=.int .u32 (aad)) 4 rfl
 have Y_4:=Y.at_ (v:=.int .u32 (aad)) 4 rfl
 have X_5:=X.at_ (v:=.bool (used)) 5 rfl
 have Y_5:=Y.at_ (v:=.bool (used)) 5 rfl
 have X_6:=X.at_ (v:=.slice A1 n1 c1) 6 rfl
 have Y_6:=Y.at_ (v:=.slice B1 n1 e1) 6 rfl
 have X_7:=X.at_ (v:=.slice A2 n2 c2) 7 rfl
 have Y_7:=Y.at_ (v:=.slice B2 n2 e2) 7 rfl
 have X_z:=X.lt
 have Y_z:=Y.lt
 go_wp2_with fail
 refine (answers_same (L.i1.below K) (L'.i1.below K) (L.i2.below K) (L'.i2.below K) hn1 hn2).mono ?_
 rintro e w2 ⟨rfl,K'⟩
 clear X_z Y_z X_3 Y_3 X_4 Y_4 X_5 Y_5 X_6 Y_6 X_7 Y_7
 replace X:=X.below K'
 replace Y:=Y.below K'
 replace K:=Below.then_ K K'
 clear K'
 have X_8:=X.at_ (v:=.int .i64 (phase)) 8 rfl
 have Y_8:=Y.at_ (v:=.int .i64 (phase)) 8 rfl
 have X_9:=X.at_ (v:=.int .i64 (shard)) 9 rfl
 have Y_9:=Y.at_ (v:=.int .i64 (shard)) 9 rfl
 have X_10:=X.at_ (v:=.int .i64 (sought)) 10 rfl
 have Y_10:=Y.at_ (v:=.int .i64 (sought)) 10 rfl
 have X_11:=X.at_ (v:=.int .i64 (leaf)) 11 rfl
 have Y_11:=Y.at_ (v:=.int .i64 (leaf)) 11 rfl
 have X_12:=X.at_ (v:=.int .i64 (bit)) 12 rfl
 have Y_12:=Y.at_ (v:=.int .i64 (bit)) 12 rfl
 have X_13:=X.at_ (v:=.int .u64 ((word:Nat):Int)) 13 rfl
 have Y_13:=Y.at_ (v:=.int .u64 ((word:Nat):Int)) 13 rfl
 have X_14:=X.at_ (v:=.bool (full)) 14 rfl
 have Y_14:=Y.at_ (v:=.bool (full)) 14 rfl
 have X_15:=X.at_ (v:=.slice A3 n3 c3) 15 rfl
 have Y_15:=Y.at_ (v:=.slice B3 n3 e3) 15 rfl
 have X_z:=X.lt
 have Y_z:=Y.lt
 go_wp2_with fail
 refine (same_any ((L.i3.below K).toUS hf) ((L'.i3.below K).toUS hf) hn3).mono ?_
 rintro e w3 ⟨rfl,K'⟩
 clear X_z Y_z X_8 Y_8 X_9 Y_9 X_10 Y_10 X_11 Y_11 X_12 Y_12 X_13 Y_13 X_14 Y_14 X_15 Y_15
 replace X:=X.below K'
 replace Y:=Y.below K'
 replace K:=Below.then_ K K'
 clear K'
 have X_16:=X.at_ (v:=.int .i64 (at_)) 16 rfl
 have Y_16:=Y.at_ (v:=.int .i64 (at_)) 16 rfl
 have X_17:=X.at_ (v:=.int .i64 (tries)) 17 rfl
 have Y_17:=Y.at_ (v:=.int .i64 (tries)) 17 rfl
 have X_18:=X.at_ (v:=.int .i64 (item)) 18 rfl
 have Y_18:=Y.at_ (v:=.int .i64 (item)) 18 rfl
 have X_19:=X.at_ (v:=.int .i64 (stamp)) 19 rfl
 have Y_19:=Y.at_ (v:=.int .i64 (stamp)) 19 rfl
 have X_z:=X.lt
 have Y_z:=Y.lt
 go_wp2
 go_ret
 exact ⟨rfl,K⟩
end Go.Proofs.YtfhefofkhmkcnaaGreatDoor

/-
 What op.Elsewhere answers: the operation in the next shard,or at the beginning of a sweep. Conditions: numbers that fit.
-/
namespace Go.Proofs.YtfhefofkhmkcnaaGreatDoor
set_option maxRecDepth 100000
set_option maxRecDepth 100000
open Go.RowKit
set_option maxHeartbeats 8000000
set_option linter.unusedVariables false
/-- The operation whose shard has nothing: in the next one, or at the beginning of a sweep. -/
def seekS (s:Sc):Sc:=⟨s.kind,s.addr,s.err,s.aad,s.used,1,s.shard,s.sought+1,s.leaf,s.bit,0,s.full,0,s.tries,s.item,s.stamp⟩
def firstS (s:Sc):Sc:=⟨s.kind,s.addr,s.err,s.aad,s.used,6,s.shard,s.sought+1,s.leaf,s.bit,0,s.full,0,s.tries,s.item,s.stamp⟩
def elsS (sh:Int) (s:Sc):Sc:=if s.sought+1<sh then seekS s else firstS s
def elsH (sh:Int) (s:Sc) (h:Hd):Hd:=if s.sought+1<sh then h else ⟨h.A0,h.n0,h.c0,h.A1,h.n1,h.c1,h.A2,h.n2,h.c2,none,0,0⟩
def elsL (sh:Int) (s:Sc) (l:Ls):Ls:=if s.sought+1<sh then l else ⟨l.rqs,l.ads,l.ers,[]⟩
theorem elsLists {sh:Int} {s:Sc} {lo:Nat} {w:World} {h:Hd} {l:Ls} (H:Lists lo w h l):Lists lo w (elsH sh s h) (elsL sh s l):=by
 unfold elsH elsL
 split
 ·exact H
 ·exact ⟨H.i0,H.i1,H.i2,IS.none_ _ _ _⟩
section
variable {w:World} {lo a M m d lf bt:Nat} {p sh wo qu tr:Int} {A B:Option Addr} {n c:Nat} {xs:List Int} {ys:List Nat} {h:Hd} {s:Sc} {l:Ls}
theorem else_seek (hs0:0≤s.sought) (hs1:s.sought≤65536) (hlt:s.sought+1<sh) :
  Calls Tryz.prog 142 #[.agg #[.int .u32 (a:Int),.int .i64 p,.slice A n c,.int .i64 sh,.int .i64 wo,.int .i64 qu,.int .i64 tr],.agg (opv h s)] w (RetOp h (seekS s) w):=by
 rcases s with ⟨kind,addr,err,aad,used,phase,shard,sought,leaf,bit,word,full,at_,tries,item,stamp⟩
 rcases h with ⟨A0,n0,c0,A1,n1,c1,A2,n2,c2,A3,n3,c3⟩
 dsimp only at *
 have e1:IntKind.i64.wrap (sought+1)=sought+1:=IntWalk.i64_in _ (by omega)
 have e2:decide (sought+1<sh)=true:=by simp;omega
 clear hlt
 go_enter Tryz.func142,Tryz.ntmps142
 go_upto_region 1 with (fail)
 have L:=Loc.start w
 generalize hal:World.alloc _ _=w1
 replace L:=L.a3 hal
 clear hal
 replace L:=L.is0 (opv hd0 sc0) rfl
 generalize w.heap.size+1+1=gR at L ⊢
 generalize w.heap.size+1=gO at L ⊢
 generalize w.heap.size=gH at L ⊢
 have O_10:=L.at_ 1 10 rfl (v:=.int .i64 sought) rfl
 have O_13:=L.at_ 1 13 rfl (v:=.int .u64 ((word:Nat):Int)) rfl
 have O_16:=L.at_ 1 16 rfl (v:=.int .i64 at_) rfl
 have O_z:=L.lt 1 rfl
 have O_f10:=L.fz 1 10 rfl
 have O_f13:=L.fz 1 13 rfl
 have O_f16:=L.fz 1 16 rfl
 go_upto_region 2 with fail
 clear O_10 O_13 O_16 O_z O_f10 O_f13 O_f16
 replace L:=((((L.set 1 10 rfl (.int .i64 (sought+1))).set 1 13 rfl (.int .u64 0)).set 1 16 rfl (.int .i64 0)).is 1 (opv ⟨A0,n0,c0,A1,n1,c1,A2,n2,c2,A3,n3,c3⟩ ⟨kind,addr,err,aad,used,phase,shard,sought+1,leaf,bit,0,full,0,tries,item,stamp⟩) rfl)
 try dsimp only [nput] at L
 generalize (((w1).setCell ⟨gO,10,none⟩ (.int .i64 (sought+1))).setCell ⟨gO,13,none⟩ (.int .u64 0)).setCell ⟨gO,16,none⟩ (.int .i64 0)=w2 at L ⊢
 have O_10:=L.at_ 1 10 rfl (v:=.int .i64 (sought+1)) rfl
 have H_3:=L.at_ 2 3 rfl (v:=.int .i64 sh) rfl
 have O_8:=L.at_ 1 8 rfl (v:=.int .i64 phase) rfl
 have O_z:=L.lt 1 rfl
 have H_z:=L.lt 2 rfl
 have O_f8:=L.fz 1 8 rfl
 have ne_O_H:=L.ne_ 1 2 rfl rfl (by decide)
 go_upto_region 4 with fail
 clear O_10 H_3 O_8 O_z H_z O_f8 ne_O_H
 generalize hal:World.setCell _ _ _=w3
 replace L:=L.sc1 hal (l9:=(opv ⟨A0,n0,c0,A1,n1,c1,A2,n2,c2,A3,n3,c3⟩ ⟨kind,addr,err,aad,used,1,shard,sought+1,leaf,bit,0,full,0,tries,item,stamp⟩)) rfl
 clear hal
 go_wp2_with (first | (refine lO 3 (L.bk_ 1 rfl) ?_) | (refine sO 4 17 (L.bk_ 0 rfl) rfl rfl ?_))
 generalize hal:World.setRow _ _ _=w4
 replace L:=L.rr0 hal
 clear hal
 refine eC Tryz.results142 (L.bk_ 0 rfl) ?_
 exact ⟨rfl,L.K⟩
theorem else_first (hs0:0≤s.sought) (hs1:s.sought≤65536) (hlt:¬ s.sought+1<sh) :
  Calls Tryz.prog 142 #[.agg #[.int .u32 (a:Int),.int .i64 p,.slice A n c,.int .i64 sh,.int .i64 wo,.int .i64 qu,.int .i64 tr],.agg (opv h s)] w (RetOp ⟨h.A0,h.n0,h.c0,h.A1,h.n1,h.c1,h.A2,h.n2,h.c2,none,0,0⟩ (firstS s) w):=by
 rcases s with ⟨kind,addr,err,aad,used,phase,shard,sought,leaf,bit,word,full,at_,tries,item,stamp⟩
 rcases h with ⟨A0,n0,c0,A1,n1,c1,A2,n2,c2,A3,n3,c3⟩
 dsimp only at *
 have e1:IntKind.i64.wrap (sought+1)=sought+1:=IntWalk.i64_in _ (by omega)
 have e2:decide (sought+1<sh)=false:=by simp;omega
 clear hlt
 go_enter Tryz.func142,Tryz.ntmps142
 go_upto_region 1 with (fail)
 have L:=Loc.start w
 generalize hal:World.alloc _ _=w1
 replace L:=L.a3 hal
 clear hal
 replace L:=L.is0 (opv hd0 sc0) rfl
 generalize w.heap.size+1+1=gR at L ⊢
 generalize w.heap.size+1=gO at L ⊢
 generalize w.heap.size=gH at L ⊢
 have O_10:=L.at_ 1 10 rfl (v:=.int .i64 sought) rfl
 have O_13:=L.at_ 1 13 rfl (v:=.int .u64 ((word:Nat):Int)) rfl
 have O_16:=L.at_ 1 16 rfl (v:=.int .i64 at_) rfl
 have O_z:=L.lt 1 rfl
 have O_f10:=L.fz 1 10 rfl
 have O_f13:=L.fz 1 13 rfl
 have O_f16:=L.fz 1 16 rfl
 go_upto_region 2 with fail
 clear O_10 O_13 O_16 O_z O_f10 O_f13 O_f16
 replace L:=((((L.set 1 10 rfl (.int .i64 (sought+1))).set 1 13 rfl (.int .u64 0)).set 1 16 rfl (.int .i64 0)).is 1 (opv ⟨A0,n0,c0,A1,n1,c1,A2,n2,c2,A3,n3,c3⟩ ⟨kind,addr,err,aad,used,phase,shard,sought+1,leaf,bit,0,full,0,tries,item,stamp⟩) rfl)
 try dsimp only [nput] at L
 generalize (((w1).setCell ⟨gO,10,none⟩ (.int .i64 (sought+1))).setCell ⟨gO,13,none⟩ (.int .u64 0)).setCell ⟨gO,16,none⟩ (.int .i64 0)=w2 at L ⊢
 have O_10:=L.at_ 1 10 rfl (v:=.int .i64 (sought+1)) rfl
 have H_3:=L.at_ 2 3 rfl (v:=.int .i64 sh) rfl
 have O_8:=L.at_ 1 8 rfl (v:=.int .i64 phase) rfl
 have O_15:=L.at_ 1 15 rfl (v:=.slice A3 n3 c3) rfl
 have O_z:=L.lt 1 rfl
 have H_z:=L.lt 2 rfl
 have O_f8:=L.fz 1 8 rfl
 have O_f15:=L.fz 1 15 rfl
 have ne_O_H:=L.ne_ 1 2 rfl rfl (by decide)
 go_upto_region 6 with fail
 clear O_10 H_3 O_8 O_15 O_z H_z O_f8 O_f15 ne_O_H
 replace L:=(((L.set 1 8 rfl (.int .i64 6)).set 1 15 rfl (.slice none 0 0)).is 1 (opv ⟨A0,n0,c0,A1,n1,c1,A2,n2,c2,none,0,0⟩ ⟨kind,addr,err,aad,used,6,shard,sought+1,leaf,bit,0,full,0,tries,item,stamp⟩) rfl)
 try dsimp only [nput] at L
 generalize ((w2).setCell ⟨gO,8,none⟩ (.int .i64 6)).setCell ⟨gO,15,none⟩ (.slice none 0 0)=w3 at L ⊢
 go_wp2_with (first | (refine lO 3 (L.bk_ 1 rfl) ?_) | (refine sO 4 20 (L.bk_ 0 rfl) rfl rfl ?_))
 generalize hal:World.setRow _ _ _=w4
 replace L:=L.rr0 hal
 clear hal
 refine eC Tryz.results142 (L.bk_ 0 rfl) ?_
 exact ⟨rfl,L.K⟩
theorem else_any (hs0:0≤s.sought) (hs1:s.sought≤65536) :
  Calls Tryz.prog 142 #[.agg #[.int .u32 (a:Int),.int .i64 p,.slice A n c,.int .i64 sh,.int .i64 wo,.int .i64 qu,.int .i64 tr],.agg (opv h s)] w (RetOp (elsH sh s h) (elsS sh s) w):=by
 unfold elsH elsS
 by_cases hlt:s.sought+1<sh
 ·rw [if_pos hlt,if_pos hlt];exact else_seek hs0 hs1 hlt
 ·rw [if_neg hlt,if_neg hlt];exact else_first hs0 hs1 hlt
end
end Go.Proofs.YtfhefofkhmkcnaaGreatDoor

/-
 Seeking,as functions of numbers: the tops of a shard's leaves,the next one,the leaf that is found,a step. No program in it.
-/
namespace Go.Proofs.YtfhefofkhmkcnaaGreatDoor
set_option maxRecDepth 100000
set_option maxHeartbeats 8000000
set_option maxRecDepth 100000
set_option linter.unusedVariables false
/-- k numbers from t on. -/
def ups (t k:Nat):List Nat:=(List.range k).map (t + ·)
theorem ups_succ (t k:Nat):ups t (k+1)=ups t k ++ [t+k]:=by simp [ups,List.range_succ]
theorem ups_mem {t k x:Nat}:x∈ups t k↔t≤x∧x<t+k:=by
 simp only [ups,List.mem_map,List.mem_range]
 constructor
 ·rintro ⟨i,hi,rfl⟩;omega
 ·intro h;exact ⟨x - t,by omega,by omega⟩
/-- How many tops the leaves from a to b - 1 are summed in. -/
def cnt_ (a b:Nat):Nat:=if a<b then (b - 1)/64+1 - a/64 else 0
theorem cnt0_ {a b:Nat} (h:b≤a):cnt_ a b=0:=by unfold cnt_;rw [if_neg (by omega)]
theorem cnt_top {a b t:Nat}:(a/64≤t∧t<a/64+cnt_ a b)↔(a<b∧a/64≤t∧t≤(b - 1)/64):=by
 unfold cnt_
 by_cases h:a<b
 ·rw [if_pos h];omega
 ·rw [if_neg h];omega
/-- The leaf at which k tops are behind. -/
def lfk (a b k:Nat):Nat:=max a (min b (64*(a/64+k)))
theorem lfk_zero {a b:Nat} (h:a≤b):lfk a b 0=a:=by unfold lfk;omega
theorem lfk_lt {a b k:Nat} (h:a≤b):lfk a b k<b↔k<cnt_ a b:=by
 unfold lfk cnt_
 by_cases hab:a<b
 ·rw [if_pos hab];omega
 ·rw [if_neg hab];omega
/-- The first leaf in the top t, its bit, the bit behind the last one. -/
def lft (a t:Nat):Nat:=max a (64*t)
def bfr (a t:Nat):Nat:=max a (64*t) - 64*t
def bto (b t:Nat):Nat:=min b (64*t+64) - 64*t
theorem lfk_at {a b k:Nat} (hk:k<cnt_ a b):lfk a b k=lft a (a/64+k)∧lfk a b k/64=a/64+k∧lfk a b k%64=bfr a (a/64+k)∧lfk a b k+min (b - lfk a b k) (64 - lfk a b k%64)=lfk a b (k+1)∧lfk a b k%64+min (b - lfk a b k) (64 - lfk a b k%64)=bto b (a/64+k)∧lfk a b k<b:=by
 have hab:a<b:=by
  rcases Nat.lt_or_ge a b with h | h
  ·exact h
  ·rw [cnt0_ h] at hk;omega
 have e:cnt_ a b=(b - 1)/64+1 - a/64:=by unfold cnt_;rw [if_pos hab]
 rw [e] at hk
 have h1:64*(a/64+k)<b:=by omega
 have h0:lfk a b k=max a (64*(a/64+k)):=by unfold lfk;omega
 have h2:a/64*64+a%64=a:=by omega
 rw [h0]
 unfold lft bfr bto lfk
 rcases Nat.eq_zero_or_pos k with rfl | hk0
 ·have:max a (64*(a/64+0))=a:=by omega
  rw [this]
  refine ⟨rfl,by omega,by omega,by omega,by omega,by omega⟩
 ·have:max a (64*(a/64+k))=64*(a/64+k):=by omega
  rw [this]
  refine ⟨rfl,by omega,by omega,by omega,by omega,by omega⟩
theorem bfr_le (a b t:Nat) (h:a/64≤t∧t<a/64+cnt_ a b):bfr a t<64∧bto b t≤64:=by
 have:=cnt_top.1 h
 unfold bfr bto;omega
/-- Is t a top of these leaves? -/
def inT (a b t:Nat):Bool:=decide (a/64≤t∧t<a/64+cnt_ a b)
/-- The next top, from the one at on, whose bit in x isn't set. -/
def hit (at_ x t:Nat):Bool:=decide (at_≤t) && !x.testBit t
def nxt (a b at_ x:Nat):Option Nat:=(ups (a/64) (cnt_ a b)).find? (hit at_ x)
/-- The first leaf, of those in the top t, whose bit in x isn't set. -/
def fre (a b x t:Nat):Option Nat:=if inT a b t=true then (if fb (fl_ x (bfr a t)) (bto b t)=true then some (64*t+fi (fl_ x (bfr a t)) (bto b t)) else none) else none
def atS (s:Sc) (t:Nat):Sc:=⟨s.kind,s.addr,s.err,s.aad,s.used,s.phase,s.shard,s.sought,s.leaf,s.bit,s.word,s.full,((t+1:Nat):Int),s.tries,s.item,s.stamp⟩
def wdS (s:Sc) (x:Nat):Sc:=⟨s.kind,s.addr,s.err,s.aad,s.used,s.phase,s.shard,s.sought,s.leaf,s.bit,x,s.full,s.at_,s.tries,s.item,s.stamp⟩
def foundS (s:Sc) (i:Nat):Sc:=⟨s.kind,s.addr,s.err,s.aad,s.used,2,s.shard,s.sought,(i:Int),s.bit,0,s.full,0,s.tries,s.item,s.stamp⟩
def onS (sh:Int) (a b:Nat) (s:Sc):Sc:=match nxt a b s.at_.toNat s.word with | some t=>atS s t | none=>elsS sh s
def onH (sh:Int) (a b:Nat) (s:Sc) (h:Hd):Hd:=match nxt a b s.at_.toNat s.word with | some t=>h | none=>elsH sh s h
def onL (sh:Int) (a b:Nat) (s:Sc) (l:Ls):Ls:=match nxt a b s.at_.toNat s.word with | some t=>l | none=>elsL sh s l
theorem onLists {sh:Int} {a b:Nat} {s:Sc} {lo:Nat} {w:World} {h:Hd} {l:Ls} (H:Lists lo w h l):Lists lo w (onH sh a b s h) (onL sh a b s l):=by
 unfold onH onL
 cases nxt a b s.at_.toNat s.word with
 | some t=>exact H
 | none=>exact elsLists H
/-- A step of seeking: a, b the leaves of the shard that is sought. -/
def skS (sh:Int) (M:Nat) (ys:List Nat) (a b:Nat) (s:Sc):Sc :=
 if s.at_=0 then onS sh a b (wdS s (gt ys (lv M+tv M))) else match fre a b (gt ys (lv M+(s.at_.toNat - 1))) (s.at_.toNat - 1) with | some i=>foundS s i | none=>onS sh a b s
def skL (sh:Int) (M:Nat) (ys:List Nat) (a b:Nat) (s:Sc) (l:Ls):Ls :=
 if s.at_=0 then onL sh a b (wdS s (gt ys (lv M+tv M))) l else match fre a b (gt ys (lv M+(s.at_.toNat - 1))) (s.at_.toNat - 1) with | some i=>l | none=>onL sh a b s l
end Go.Proofs.YtfhefofkhmkcnaaGreatDoor

/-
 What hint.Step answers: the cells and the operation behind a step of marking. Conditions: a configuration that may be,as many cells as there are,an operation whose leaf there is,with At 0 or 1 and Phase 4 or 5,at most 65536 addresses,all the block's,and at most 65536 items in its lists.
-/
namespace Go.Proofs.YtfhefofkhmkcnaaGreatDoor
set_option maxRecDepth 100000
set_option maxRecDepth 100000
set_option maxRecDepth 100000
open Go.RowKit
set_option maxHeartbeats 8000000
set_option linter.unusedVariables false
def RetStep (h:Hd) (s:Sc) (l:Ls) (m:Nat) (ys:List Nat) (B0:Option Addr) (w:World) (e:Ending) (w':World):Prop:=∃ A0 c0 A1 c1 A2 c2 A3 c3 B d,e=.returned (.tuple #[.slice B m d,.agg (opv ⟨A0,h.n0,c0,A1,h.n1,c1,A2,h.n2,c2,A3,h.n3,c3⟩ s)])∧US w' B m d ys∧Lists w.heap.size w' ⟨A0,h.n0,c0,A1,h.n1,c1,A2,h.n2,c2,A3,h.n3,c3⟩ l∧(∀ k,k<w.heap.size→Apart k B0→Apart k B)∧Below w.heap.size w w'
/-- What a swap answers, whether it did or not. -/
def RetSw2 (m:Nat) (ys:List Nat) (B0:Option Addr) (w:World) (e:Ending) (w':World):Prop:=∃ B d b,e=.returned (.tuple #[.slice B m d,.bool b])∧US w' B m d ys∧(∀ k,k<w.heap.size→Apart k B0→Apart k B)∧Below w.heap.size w w'
theorem swap2_any {w:World} {B:Option Addr} {m d cl v y:Nat} {ys:List Nat} (U:US w B m d ys) (hc:cl<m) (hm:m≤65536) (hv:v<U64) :
  Calls Tryz.prog 135 #[.slice B m d,.int .i64 (cl:Nat),.int .u64 (y:Nat),.int .u64 (v:Nat)] w (RetSw2 m (if gt ys cl=y then ys.set cl v else ys) B w):=by
 by_cases he:gt ys cl=y
 ·rw [if_pos he,← he]
  refine (swap_new U hc hm hv).mono ?_
  rintro e w' ⟨g,c,rfl,U',hg,K⟩
  exact ⟨_,_,_,rfl,U',(fun k hk _ b o e=>by injection e with e;injection e with e1;omega),K⟩
 ·rw [if_neg he]
  refine (swap_same U hc he).mono ?_
  rintro e w' ⟨rfl,K⟩
  exact ⟨_,_,_,rfl,U.below K,(fun _ _ h=>h),K⟩
theorem cel0 {M lf:Nat} {s:Sc} (hlf:s.leaf=(lf:Int)) (h:s.at_=0):hcel M s=lv M+lf/64∧bt s=lf%64:=by
 unfold hcel bt;rw [if_pos h,if_pos h,hlf];exact ⟨rfl,rfl⟩
theorem cel1 {M lf:Nat} {s:Sc} (hlf:s.leaf=(lf:Int)) (h:s.at_=1):hcel M s=lv M+tv M∧bt s=lf/64:=by
 unfold hcel bt;rw [if_neg (by omega),if_neg (by omega),hlf];exact ⟨rfl,rfl⟩
section
variable {w:World} {lo lo2 a M m d cl b lf f:Nat} {p sh wo qu tr:Int} {A B:Option Addr} {n c:Nat} {xs:List Int} {ys:List Nat} {h:Hd} {s:Sc} {l:Ls}
theorem stepb {M lf m:Nat} (hM:M≤65536) (hlv:lf<lv M) (hmm:m=lv M+tv M+1):m≤65536∧lv M+lf/64<m∧lv M+tv M<m∧lf%64<64∧lf/64<64:=by
 have h1:=lv_le hM
 have h2:=tv_le hM
 have h3:lv M≤64*tv M:=by unfold tv tq;omega
 omega
theorem step4 (ha:a<4294967296) (hM:Much a p M) (hn:h.n0≤65536) (hI:IS .u32 lo w h.A0 h.n0 h.c0 xs) (hin:s.kind=4→InB a M h.n0 xs) (L:Lists lo2 w h l) (h1:h.n1≤65536) (h2:h.n2≤65536) (h3:h.n3≤65536) (hU:US w B m d ys) (hm:m≤65536) (hlf:s.leaf=(lf:Int)) (hcm:cl<m) (hb2:b<64) (hw:s.word<18446744073709551616) (hff:f=149∨f=150) (ha0:0≤s.at_) (ha2:s.at_<2) (hV:∀ gN gE,(clos gN gE)[s.at_.toNat]? = some (.func (.func f) #[] #[.pointer (some ⟨gN,0,none⟩),.pointer (some ⟨gE,0,none⟩)]))
  (TC:∀ (w:World) gN gE (_:w.cell? ⟨gN,0,none⟩=some (.int .i64 (M:Nat))) (_:w.cell? ⟨gE,0,none⟩=some (.int .i64 (lf:Nat))),Hid (Calls Tryz.prog f #[.pointer (some ⟨gN,0,none⟩),.pointer (some ⟨gE,0,none⟩)] w fun e w'=>e=.returned (.tuple #[.int .i64 (cl:Nat),.int .i64 (b:Nat)])∧w=w')) (hph:s.phase=4) :
  Calls Tryz.prog 122 #[.agg #[.int .u32 a,.int .i64 p,.slice A n c,.int .i64 sh,.int .i64 wo,.int .i64 qu,.int .i64 tr],.slice B m d,.agg (opv h s)] w (RetStep h (lk a h.n0 xs s (gt ys cl) b) l m ys B w):=by
 have hL:=L
 have hU0:=hU
 clear L hU
 have TOwn:=fun w (L:Lists lo2 w h l)=>Lib.hid (own_any (s:=s) L hn h1 h2 h3)
 have hx:=Lib.hid (hL.i0.uniq hI)
 have TS:=fun w=>Lib.hid (summaries_any (w:=w) (sh:=sh) (wo:=wo) (qu:=qu) (tr:=tr) (A:=A) (n:=n) (c:=c) (leaf:=(lf:Int)) ha hM)
 have TK:=fun w lo A0 c0 A1 c1 A2 c2 A3 c3 (hI:IS .u32 lo w A0 h.n0 c0 xs)=>Lib.hid (look_any (w:=w) (sh:=sh) (wo:=wo) (qu:=qu) (tr:=tr) (A:=A) (n:=n) (c:=c) (h:=⟨A0,h.n0,c0,A1,h.n1,c1,A2,h.n2,c2,A3,h.n3,c3⟩) (s:=s) (x:=gt ys cl) (b:=b) ha hM hn hI hin (gt_lt hU0.fit cl) hb2)
 have TL:=fun w (U:US w B m d ys)=>Lib.hid (load_nat U cl hcm)
 obtain ⟨x,hx9⟩:∃ x,x=gt ys cl:=⟨_,rfl⟩
 obtain ⟨s2,hs2⟩:∃ s2,s2=lk a h.n0 xs s (gt ys cl) b:=⟨_,rfl⟩
 simp only [← hs2] at TK ⊢
 simp only [← hx9] at TK TL
 clear hx9 hs2
 have e1:decide (s.at_<0)=false:=by simp;omega
 have e2:decide (2≤s.at_)=false:=by simp;omega
 clear hI hin hw ha hM hn h1 h2 h3
 rcases s with ⟨kind,addr,err,aad,used,phase,shard,sought,leaf,bit,word,full,at_,tries,item,stamp⟩
 rcases h with ⟨A0,n0,c0,A1,n1,c1,A2,n2,c2,A3,n3,c3⟩
 dsimp only at *
 subst hlf hph
 go_enter Tryz.func122,Tryz.ntmps122
 go_upto_region 1 with (fail)
 have L:=Loc.start w
 generalize hal:World.alloc _ _=w1
 replace L:=L.a3 hal
 clear hal
 replace L:=L.is0 (opv hd0 sc0) rfl
 generalize w.heap.size+1+1=gR at L ⊢
 generalize w.heap.size+1=gO at L ⊢
 generalize w.heap.size=gH at L ⊢
 go_wp2_with (refine lO 5 (L.bk_ 1 rfl) ?_)
 have KS:=L.K.size
 have LbO:=L.gs
 refine ((TOwn _ (hL.below L.K)).out).mono ?_
 rintro e w2 ⟨A0',c0',A1',c1',A2',c2',A3',c3',rfl,L',K'⟩
 have Lb:=L.lts
 replace L:=L.over K'
 replace L:=L.lists Lb L'
 replace L:=L.sz K'.size
 clear Lb
 try dsimp only [lF,List.cons_append,List.nil_append] at L
 clear L'
 go_upto_region 2 with (refine sO 5 13 (L.bk_ 1 rfl) rfl rfl ?_)
 generalize hal:World.setRow _ _ _=w3
 replace L:=L.rr1 hal
 clear hal
 have O_11:=L.at_ 1 11 rfl (v:=.int .i64 (lf:Int)) rfl
 have O_z:=L.lt 1 rfl
 go_wp2_with (refine lC 3 (L.bk_ 2 rfl) ?_)
 refine ((TS _).out).mono ?_
 rintro e w9 ⟨gN,gE,rfl,N,E,hgN,hgE,K'⟩
 clear O_11 O_z
 have Lb:=L.lts
 replace L:=L.over K'
 replace L:=L.bkf Lb hgN N
 replace L:=L.bkf Lb hgE E
 clear K' N E hgN hgE Lb
 go_upto_region 3 with (refine wpList_store_row rfl 165 (.tmp 8) (.tmp 17) rfl _ _ rfl rfl _ _ (Bk.new _ _ _) ar_sz rfl (ar_one _ _) ?_)
 rw [World.setRow_alloc_new]
 replace L:=(L).alloc (clos gN gE) 165
 try simp only [World.size_alloc] at L
 try dsimp only [nput] at L
 generalize (w9).alloc (.cells (clos gN gE) 165)=w4 at L ⊢
 generalize w9.heap.size=gV at L ⊢
 have O_16:=L.at_ 2 16 rfl (v:=.int .i64 at_) rfl
 have O_8:=L.at_ 2 8 rfl (v:=.int .i64 4) rfl
 have O_z:=L.lt 2 rfl
 go_upto_region 5 with fail
 have V_k:=L.at_ 0 at_.toNat rfl (hV gN gE)
 have V_z:=L.lt 0 rfl
 rcases hff with rfl | rfl
 all_goals (
  go_upto_region 6 with ((with_reducible refine ((TC _ _ _ ((L.get 1 rfl:Bk _ gN _ _).at_ (v:=.int .i64 (M:Nat)) 0 rfl) ((L.get 0 rfl:Bk _ gE _ _).at_ (v:=.int .i64 (lf:Nat)) 0 rfl)).out).mono ?_);rintro e w' ⟨rfl,rfl⟩)
  clear V_k V_z
  go_upto_region 8 with fail
  clear O_16 O_8 O_z
  replace L:=L.drew
  refine wp_region_held_drew (S:=fun w'=>∃ v_R:Array Value,v_R.size=20∧Loc w w' [(gV,165,clos gN gE),(gR,43,v_R),(gO,43,opv ⟨A0',n0,c0',A1',n1,c1',A2',n2,c2',A3',n3,c3'⟩ ⟨kind,addr,err,aad,used,4,shard,sought,(lf:Int),bit,word,full,at_,tries,item,stamp⟩),(gH,27,#[.int .u32 (a:Int),.int .i64 p,.slice A n c,.int .i64 sh,.int .i64 wo,.int .i64 qu,.int .i64 tr])] [bF gE 3 #[.int .i64 (lf:Nat)],bF gN 3 #[.int .i64 (M:Nat)],zF w1.heap.size,iF .u32 w1.heap.size A0' n0 c0' l.rqs,iF .u32 w1.heap.size A1' n1 c1' l.ads,iF .i64 w1.heap.size A2' n2 c2' l.ers,iF .u64 w1.heap.size A3' n3 c3' l.ses]) (by kernel_rfl) (⟨_,rfl,L⟩) (fun hHeld=>?_)
  generalize w4.drew=v5 at hHeld L ⊢
  refine tg 0 40 (.slice B m d) rfl hHeld ?_
  refine tl 1 41 (.agg (#[.int .u32 (a:Int),.int .i64 p,.slice A n c,.int .i64 sh,.int .i64 wo,.int .i64 qu,.int .i64 tr])) rfl (yieldsIf_load_row (by rfl) 27 (.tmp 3) rfl gH rfl 27 _ (0,0) _ (fun _ hS=>((hS.choose_spec.2).bk_ 3 rfl)) Tryz.underlying27 rfl cf_sz) hHeld ?_
  refine tl 2 42 (.agg (opv ⟨A0',n0,c0',A1',n1,c1',A2',n2,c2',A3',n3,c3'⟩ ⟨kind,addr,err,aad,used,4,shard,sought,(lf:Int),bit,word,full,at_,tries,item,stamp⟩)) rfl (yieldsIf_load_row (by rfl) 43 (.tmp 5) rfl gO rfl 43 _ (0,0) _ (fun _ hS=>((hS.choose_spec.2).bk_ 2 rfl)) Tryz.underlying43 rfl op_sz) hHeld ?_
  refine tg 3 43 (.slice B m d) rfl hHeld ?_
  refine tg 4 44 (.int .i64 (cl:Nat)) rfl hHeld ?_
  refine tg 6 46 (.int .i64 (b:Nat)) rfl hHeld ?_
  refine rd 5 45 rfl fun K0 hK=>?_
  go_simp
  refine ((TL _ (hU0.below L.K)).out).mono ?_
  rintro e w' ⟨rfl,rfl⟩
  refine hK.out _ _ ⟨_,rfl,L⟩ ?_
  clear hHeld hK K0
  intro hHeld
  try simp only [Act.put,sA,sZ,sS]
  refine rd 7 47 rfl fun K0 hK=>?_
  go_simp
  refine ((TK _ _ _ _ _ _ _ _ _ _ ((L.lists_at 3 rfl).asked hx.out)).out).mono ?_
  rintro e w6 ⟨rfl,K'⟩
  replace L:=L.over K'
  refine hK.out _ _ ⟨_,rfl,L⟩ ?_
  clear hHeld hK K0
  intro hHeld
  clear K'
  try simp only [Act.put,sA,sZ,sS]
  refine tg 8 6 (.slice B m d) rfl hHeld ?_
  refine rn 9 rfl fun K0 hK=>?_
  rw [if_pos (by rfl)]
  refine wp_store_row 43 (.tmp 7) (.tmp 47) rfl gR _ rfl rfl _ _ (L.bk_ 1 rfl) op_sz rfl (opv_one _ _) ?_
  replace L:=L.row 1 rfl (opv ⟨A0',n0,c0',A1',n1,c1',A2',n2,c2',A3',n3,c3'⟩ s2)
  try dsimp only [nput] at L
  refine hK.out _ _ ⟨_,rfl,L⟩ ?_
  clear hHeld hK K0
  intro hHeld
  generalize w6.setRow gR (opv ⟨A0',n0,c0',A1',n1,c1',A2',n2,c2',A3',n3,c3'⟩ s2)=v7 at hHeld L ⊢
  try simp only [Act.put]
  refine wpAnyH_done (by kernel_rfl) ?_ _
  clear hHeld
  go_wp2
  refine eTC Tryz.results122 (.slice B m d) (L.bk_ 1 rfl) ?_
  exact ⟨_,_,_,_,_,_,_,_,_,_,rfl,hU0.below L.K,(L.lists_at 3 rfl).lower_ KS,(fun _ _ h=>h),L.K⟩)
theorem step5 (ha:a<4294967296) (hM:Much a p M) (hn:h.n0≤65536) (hI:IS .u32 lo w h.A0 h.n0 h.c0 xs) (hin:s.kind=4→InB a M h.n0 xs) (L:Lists lo2 w h l) (h1:h.n1≤65536) (h2:h.n2≤65536) (h3:h.n3≤65536) (hU:US w B m d ys) (hm:m≤65536) (hlf:s.leaf=(lf:Int)) (hcm:cl<m) (hb2:b<64) (hw:s.word<18446744073709551616) (hff:f=149∨f=150) (ha0:0≤s.at_) (ha2:s.at_<2) (hV:∀ gN gE,(clos gN gE)[s.at_.toNat]? = some (.func (.func f) #[] #[.pointer (some ⟨gN,0,none⟩),.pointer (some ⟨gE,0,none⟩)]))
  (TC:∀ (w:World) gN gE (_:w.cell? ⟨gN,0,none⟩=some (.int .i64 (M:Nat))) (_:w.cell? ⟨gE,0,none⟩=some (.int .i64 (lf:Nat))),Hid (Calls Tryz.prog f #[.pointer (some ⟨gN,0,none⟩),.pointer (some ⟨gE,0,none⟩)] w fun e w'=>e=.returned (.tuple #[.int .i64 (cl:Nat),.int .i64 (b:Nat)])∧w=w')) (hph:s.phase=5) :
  Calls Tryz.prog 122 #[.agg #[.int .u32 a,.int .i64 p,.slice A n c,.int .i64 sh,.int .i64 wo,.int .i64 qu,.int .i64 tr],.slice B m d,.agg (opv h s)] w (RetStep h (dn a h.n0 xs (worded s (mkd s.word b s.full))) l m (if gt ys cl=s.word then ys.set cl (mkd s.word b s.full) else ys) B w):=by
 have hL:=L
 have hU0:=hU
 clear L hU
 have TOwn:=fun w (L:Lists lo2 w h l)=>Lib.hid (own_any (s:=s) L hn h1 h2 h3)
 have hx:=Lib.hid (hL.i0.uniq hI)
 have TS:=fun w=>Lib.hid (summaries_any (w:=w) (sh:=sh) (wo:=wo) (qu:=qu) (tr:=tr) (A:=A) (n:=n) (c:=c) (leaf:=(lf:Int)) ha hM)
 have TM:=fun w=>Lib.hid (marked_any s.word b s.full hw hb2 w)
 have hy:=mkd_lt s.full hw hb2
 obtain ⟨y,hy1⟩:∃ y,y=mkd s.word b s.full:=⟨_,rfl⟩
 rw [← hy1] at TM hy ⊢
 clear hy1
 have TK:=fun w lo A0 c0 A1 c1 A2 c2 A3 c3 (hI:IS .u32 lo w A0 h.n0 c0 xs)=>Lib.hid (done_any (w:=w) (sh:=sh) (wo:=wo) (qu:=qu) (tr:=tr) (A:=A) (n:=n) (c:=c) (h:=⟨A0,h.n0,c0,A1,h.n1,c1,A2,h.n2,c2,A3,h.n3,c3⟩) (s:=worded s y) ha hM hn hI hin)
 have TW:=fun w (U:US w B m d ys)=>Lib.hid (swap2_any (y:=s.word) U hcm hm hy)
 obtain ⟨s2,hs2⟩:∃ s2,s2=dn a h.n0 xs (worded s y):=⟨_,rfl⟩
 simp only [← hs2] at TK ⊢
 obtain ⟨y2,hy2⟩:∃ y2,y2=if gt ys cl=s.word then ys.set cl y else ys:=⟨_,rfl⟩
 simp only [← hy2] at TW ⊢
 clear hs2 hy2 hy
 have e1:decide (s.at_<0)=false:=by simp;omega
 have e2:decide (2≤s.at_)=false:=by simp;omega
 clear hI hin hw ha hM hn h1 h2 h3
 rcases s with ⟨kind,addr,err,aad,used,phase,shard,sought,leaf,bit,word,full,at_,tries,item,stamp⟩
 rcases h with ⟨A0,n0,c0,A1,n1,c1,A2,n2,c2,A3,n3,c3⟩
 dsimp only at *
 subst hlf hph
 go_enter Tryz.func122,Tryz.ntmps122
 go_upto_region 1 with (fail)
 have L:=Loc.start w
 generalize hal:World.alloc _ _=w1
 replace L:=L.a3 hal
 clear hal
 replace L:=L.is0 (opv hd0 sc0) rfl
 generalize w.heap.size+1+1=gR at L ⊢
 generalize w.heap.size+1=gO at L ⊢
 generalize w.heap.size=gH at L ⊢
 go_wp2_with (refine lO 5 (L.bk_ 1 rfl) ?_)
 have KS:=L.K.size
 have LbO:=L.gs
 refine ((TOwn _ (hL.below L.K)).out).mono ?_
 rintro e w2 ⟨A0',c0',A1',c1',A2',c2',A3',c3',rfl,L',K'⟩
 have Lb:=L.lts
 replace L:=L.over K'
 replace L:=L.lists Lb L'
 replace L:=L.sz K'.size
 clear Lb
 try dsimp only [lF,List.cons_append,List.nil_append] at L
 clear L'
 go_upto_region 2 with (refine sO 5 13 (L.bk_ 1 rfl) rfl rfl ?_)
 generalize hal:World.setRow _ _ _=w3
 replace L:=L.rr1 hal
 clear hal
 have O_11:=L.at_ 1 11 rfl (v:=.int .i64 (lf:Int)) rfl
 have O_z:=L.lt 1 rfl
 go_wp2_with (refine lC 3 (L.bk_ 2 rfl) ?_)
 refine ((TS _).out).mono ?_
 rintro e w9 ⟨gN,gE,rfl,N,E,hgN,hgE,K'⟩
 clear O_11 O_z
 have Lb:=L.lts
 replace L:=L.over K'
 replace L:=L.bkf Lb hgN N
 replace L:=L.bkf Lb hgE E
 clear K' N E hgN hgE Lb
 go_upto_region 3 with (refine wpList_store_row rfl 165 (.tmp 8) (.tmp 17) rfl _ _ rfl rfl _ _ (Bk.new _ _ _) ar_sz rfl (ar_one _ _) ?_)
 rw [World.setRow_alloc_new]
 replace L:=(L).alloc (clos gN gE) 165
 try simp only [World.size_alloc] at L
 try dsimp only [nput] at L
 generalize (w9).alloc (.cells (clos gN gE) 165)=w4 at L ⊢
 generalize w9.heap.size=gV at L ⊢
 have O_16:=L.at_ 2 16 rfl (v:=.int .i64 at_) rfl
 have O_8:=L.at_ 2 8 rfl (v:=.int .i64 5) rfl
 have O_z:=L.lt 2 rfl
 go_upto_region 5 with fail
 have V_k:=L.at_ 0 at_.toNat rfl (hV gN gE)
 have V_z:=L.lt 0 rfl
 rcases hff with rfl | rfl
 all_goals (
  go_upto_region 6 with ((with_reducible refine ((TC _ _ _ ((L.get 1 rfl:Bk _ gN _ _).at_ (v:=.int .i64 (M:Nat)) 0 rfl) ((L.get 0 rfl:Bk _ gE _ _).at_ (v:=.int .i64 (lf:Nat)) 0 rfl)).out).mono ?_);rintro e w' ⟨rfl,rfl⟩)
  clear V_k V_z
  go_upto_region 10 with fail
  clear O_8 O_16
  clear O_z
  have O_13:=L.at_ 2 13 rfl (v:=.int .u64 ((word:Nat):Int)) rfl
  have O_14:=L.at_ 2 14 rfl (v:=.bool full) rfl
  have O_z:=L.lt 2 rfl
  go_wp2_with fail
  refine ((TM _).out).mono ?_
  rintro e w' ⟨rfl,rfl⟩
  clear O_13 O_14 O_z
  have O_13:=L.at_ 2 13 rfl (v:=.int .u64 ((word:Nat):Int)) rfl
  have O_z:=L.lt 2 rfl
  go_wp2_with fail
  have hm0:0<m:=Nat.lt_of_le_of_lt (Nat.zero_le _) hcm
  have KA:=L.K.size
  refine ((TW _ (hU0.below L.K)).out).mono ?_
  rintro e w5 ⟨B2,d2,b2,rfl,U,hA,K'⟩
  clear O_13 O_z
  have Lb:=L.lts
  replace L:=L.over K'
  replace L:=L.us_av (fun i b e=>hA b.1 (Lb i b e) (hU0.apart0 hm0 L i b e)) U
  clear Lb
  try dsimp only [lF,List.cons_append,List.nil_append] at L
  clear U
  have O_13:=L.at_ 2 13 rfl (v:=.int .u64 ((word:Nat):Int)) rfl
  have O_z:=L.lt 2 rfl
  have O_f13:=L.fz 2 13 rfl
  go_upto_region 13 with fail
  clear O_13 O_z O_f13
  generalize hal:World.setCell _ _ _=w6
  replace L:=L.sc2 hal (l9:=(opv ⟨A0',n0,c0',A1',n1,c1',A2',n2,c2',A3',n3,c3'⟩ ⟨kind,addr,err,aad,used,5,shard,sought,(lf:Int),bit,y,full,at_,tries,item,stamp⟩)) rfl
  clear hal
  go_wp2_with (first | (refine lC 3 (L.bk_ 3 rfl) ?_) | (refine lO 5 (L.bk_ 2 rfl) ?_))
  refine ((TK _ _ _ _ _ _ _ _ _ _ ((L.lists_at 4 rfl).asked hx.out)).out).mono ?_
  rintro e w7 ⟨rfl,K'⟩
  replace L:=L.over K'
  go_wp2_with (refine sO 7 70 (L.bk_ 1 rfl) rfl rfl ?_)
  generalize hal:World.setRow _ _ _=w8
  replace L:=L.rr1 hal
  clear hal
  refine eTC Tryz.results122 (.slice B2 m d2) (L.bk_ 1 rfl) ?_
  exact ⟨_,_,_,_,_,_,_,_,_,_,rfl,L.us_ 0 rfl,(L.lists_at 4 rfl).lower_ KS,(fun k hk=>hA k (Nat.lt_of_lt_of_le hk KA)),L.K⟩)
theorem step_any (ha:a<4294967296) (hM:Much a p M) (hn:h.n0≤65536) (hI:IS .u32 lo w h.A0 h.n0 h.c0 xs) (hin:s.kind=4→InB a M h.n0 xs) (L:Lists lo2 w h l) (h1:h.n1≤65536) (h2:h.n2≤65536) (h3:h.n3≤65536) (hU:US w B m d ys) (hmm:m=lv M+tv M+1) (hlf:s.leaf=(lf:Int)) (hlv:lf<lv M) (hat:s.at_=0∨s.at_=1) (hph:s.phase=4∨s.phase=5) (hw:s.word<18446744073709551616) :
  Calls Tryz.prog 122 #[.agg #[.int .u32 a,.int .i64 p,.slice A n c,.int .i64 sh,.int .i64 wo,.int .i64 qu,.int .i64 tr],.slice B m d,.agg (opv h s)] w (RetStep h (stO a M h.n0 xs ys s) l m (stC M ys s) B w):=by
 have hb:=stepb hM.most hlv hmm
 rcases hat with hat | hat
 ·obtain ⟨e1,e2⟩:=cel0 (M:=M) hlf hat
  have TC:∀ (w:World) gN gE (_:w.cell? ⟨gN,0,none⟩=some (.int .i64 (M:Nat))) (_:w.cell? ⟨gE,0,none⟩=some (.int .i64 (lf:Nat))),Hid (Calls Tryz.prog 149 #[.pointer (some ⟨gN,0,none⟩),.pointer (some ⟨gE,0,none⟩)] w fun e w'=>e=.returned (.tuple #[.int .i64 (hcel M s:Nat),.int .i64 (bt s:Nat)])∧w=w'):=fun w gN gE hN hE=>by rw [e1,e2];exact clo1_any hN hE hM.most (by omega)
  have hV:∀ gN gE,(clos gN gE)[s.at_.toNat]? = some (.func (.func 149) #[] #[.pointer (some ⟨gN,0,none⟩),.pointer (some ⟨gE,0,none⟩)]):=fun _ _=>by rw [hat];rfl
  rcases hph with hph | hph
  ·unfold stO stC;rw [if_pos hph,if_pos hph]
   exact step4 ha hM hn hI hin L h1 h2 h3 hU hb.1 hlf (by omega) (by omega) hw (.inl rfl) (by omega) (by omega) hV TC hph
  ·unfold stO stC;rw [if_neg (by omega),if_neg (by omega)]
   exact step5 ha hM hn hI hin L h1 h2 h3 hU hb.1 hlf (by omega) (by omega) hw (.inl rfl) (by omega) (by omega) hV TC hph
 ·obtain ⟨e1,e2⟩:=cel1 (M:=M) hlf hat
  have TC:∀ (w:World) gN gE (_:w.cell? ⟨gN,0,none⟩=some (.int .i64 (M:Nat))) (_:w.cell? ⟨gE,0,none⟩=some (.int .i64 (lf:Nat))),Hid (Calls Tryz.prog 150 #[.pointer (some ⟨gN,0,none⟩),.pointer (some ⟨gE,0,none⟩)] w fun e w'=>e=.returned (.tuple #[.int .i64 (hcel M s:Nat),.int .i64 (bt s:Nat)])∧w=w'):=fun w gN gE hN hE=>by rw [e1,e2];exact clo2_any hN hE hM.most (by omega)
  have hV:∀ gN gE,(clos gN gE)[s.at_.toNat]? = some (.func (.func 150) #[] #[.pointer (some ⟨gN,0,none⟩),.pointer (some ⟨gE,0,none⟩)]):=fun _ _=>by rw [hat];rfl
  rcases hph with hph | hph
  ·unfold stO stC;rw [if_pos hph,if_pos hph]
   exact step4 ha hM hn hI hin L h1 h2 h3 hU hb.1 hlf (by omega) (by omega) hw (.inr rfl) (by omega) (by omega) hV TC hph
  ·unfold stO stC;rw [if_neg (by omega),if_neg (by omega)]
   exact step5 ha hM hn hI hin L h1 h2 h3 hU hb.1 hlf (by omega) (by omega) hw (.inr rfl) (by omega) (by omega) hV TC hph
end
end Go.Proofs.YtfhefofkhmkcnaaGreatDoor

/-
 Operations that claim,as functions of numbers;what a step answers. No program in it.
-/
namespace Go.Proofs.YtfhefofkhmkcnaaGreatDoor
set_option maxRecDepth 100000
set_option maxRecDepth 100000
open Go.RowKit
set_option maxHeartbeats 8000000
/-- A bit was found. -/
def fndS (s:Sc) (x b:Nat):Sc:=⟨s.kind,s.addr,s.err,s.aad,s.used,3,s.shard,s.sought,s.leaf,(b:Int),x,s.full,s.at_,s.tries,s.item,s.stamp⟩
/-- The leaf is read again. -/
def againS (s:Sc):Sc:=⟨s.kind,s.addr,s.err,s.aad,s.used,if s.kind=1 then 2 else 8,s.shard,s.sought,s.leaf,s.bit,0,s.full,s.at_,s.tries,s.item,s.stamp⟩
/-- The bit is claimed: its address. -/
def adS (s:Sc) (y:Nat):Sc:=⟨s.kind,s.addr,s.err,(y:Int),s.used,s.phase,s.shard,s.sought,s.leaf,s.bit,s.word,s.full,s.at_,s.tries,s.item,s.stamp⟩
/-- The claim is full. -/
def fullS (s:Sc):Sc:=⟨s.kind,s.addr,s.err,s.aad,s.used,4,s.shard,s.sought,s.leaf,s.bit,0,true,0,s.tries,s.item,s.stamp⟩
def lookS (sh:Int) (x:Nat) (s:Sc):Sc:=if fb x 32=true then fndS s x (fi x 32) else if s.sought+1<sh then seekS s else firstS s
def lookL (sh:Int) (x:Nat) (s:Sc) (l:Ls):Ls:=if fb x 32=true then l else if s.sought+1<sh then l else ⟨l.rqs,l.ads,l.ers,[]⟩
/-- The address of the operation's bit. -/
def adr (a lf b:Nat):Nat:=(a+(32*lf+b))%4294967296
def claimS (a n:Nat) (xs:List Int) (x:Nat) (s:Sc):Sc :=
 if x=s.word then (if fl (clm s.word s.bit.toNat)=true then fullS (adS s (adr a s.leaf.toNat s.bit.toNat)) else gon a n xs (adS s (adr a s.leaf.toNat s.bit.toNat))) else againS s
def claimC (ys:List Nat) (s:Sc):List Nat:=if gt ys s.leaf.toNat=s.word then ys.set s.leaf.toNat (clm s.word s.bit.toNat) else ys
/-- What a step answers: cells that are new or those that were handed in, an operation, whether it took effect. -/
def RetStp (lo:Nat) (n0:Nat) (s:Sc) (l:Ls) (m:Nat) (ys:List Nat) (b:Bool) (B0:Option Addr) (w:World) (e:Ending) (w':World):Prop :=
 ∃ A0 c0 A1 n1 c1 A2 n2 c2 A3 n3 c3 B d,e=.returned (.tuple #[.slice B m d,.agg (opv ⟨A0,n0,c0,A1,n1,c1,A2,n2,c2,A3,n3,c3⟩ s),.bool b])∧US w' B m d ys∧Lists lo w' ⟨A0,n0,c0,A1,n1,c1,A2,n2,c2,A3,n3,c3⟩ l∧(∀ k,k<w.heap.size→Apart k B0→Apart k B)∧Below w.heap.size w w'
end Go.Proofs.YtfhefofkhmkcnaaGreatDoor

/-
 What claim.again and claim.look answer. Conditions: numbers that fit.
-/
namespace Go.Proofs.YtfhefofkhmkcnaaGreatDoor
set_option maxRecDepth 100000
set_option maxRecDepth 100000
open Go.RowKit
set_option maxHeartbeats 8000000
set_option linter.unusedVariables false
section
variable {w:World} {lo a M m d lf bt:Nat} {p sh wo qu tr:Int} {A B:Option Addr} {n c:Nat} {xs:List Int} {ys:List Nat} {h:Hd} {s:Sc} {l:Ls}
theorem again_grant (hk:s.kind=1) :
  Calls Tryz.prog 158 #[.agg (opv h s)] w (RetOp h (againS s) w):=by
 have hk2:s.kind=1:=hk
 have e0:(s.kind == 1)=true:=by simp [hk]
 rw [show againS s=⟨s.kind,s.addr,s.err,s.aad,s.used,2,s.shard,s.sought,s.leaf,s.bit,0,s.full,s.at_,s.tries,s.item,s.stamp⟩ by unfold againS;rw [if_pos hk]]
 clear hk hk2
 rcases s with ⟨kind,addr,err,aad,used,phase,shard,sought,leaf,bit,word,full,at_,tries,item,stamp⟩
 rcases h with ⟨A0,n0,c0,A1,n1,c1,A2,n2,c2,A3,n3,c3⟩
 dsimp only at *
 go_enter Tryz.func158,Tryz.ntmps158
 go_upto_region 1 with (fail)
 have L:=Loc.start w
 generalize hal:World.alloc _ _=w1
 replace L:=L.a2 hal
 clear hal
 replace L:=L.is0 (opv hd0 sc0) rfl
 generalize w.heap.size+1=gR at L ⊢
 generalize w.heap.size=gO at L ⊢
 have O_8:=L.at_ 1 8 rfl (v:=.int .i64 phase) rfl
 have O_13:=L.at_ 1 13 rfl (v:=.int .u64 ((word:Nat):Int)) rfl
 have O_z:=L.lt 1 rfl
 have O_f8:=L.fz 1 8 rfl
 have O_f13:=L.fz 1 13 rfl
 go_upto_region 2 with fail
 clear O_8 O_13 O_z O_f8 O_f13
 replace L:=(((L.set 1 8 rfl (.int .i64 8)).set 1 13 rfl (.int .u64 0)).is 1 (opv ⟨A0,n0,c0,A1,n1,c1,A2,n2,c2,A3,n3,c3⟩ ⟨kind,addr,err,aad,used,8,shard,sought,leaf,bit,0,full,at_,tries,item,stamp⟩) rfl)
 try dsimp only [nput] at L
 generalize ((w1).setCell ⟨gO,8,none⟩ (.int .i64 8)).setCell ⟨gO,13,none⟩ (.int .u64 0)=w2 at L ⊢
 have O_0:=L.at_ 1 0 rfl (v:=.int .i64 kind) rfl
 have O_8:=L.at_ 1 8 rfl (v:=.int .i64 8) rfl
 have O_z:=L.lt 1 rfl
 have O_f8:=L.fz 1 8 rfl
 go_upto_region 4 with fail
 clear O_0 O_8 O_z O_f8
 generalize hal:World.setCell _ _ _=w3
 replace L:=L.sc1 hal (l9:=(opv ⟨A0,n0,c0,A1,n1,c1,A2,n2,c2,A3,n3,c3⟩ ⟨kind,addr,err,aad,used,2,shard,sought,leaf,bit,0,full,at_,tries,item,stamp⟩)) rfl
 clear hal
 go_wp2_with (first | (refine lO 1 (L.bk_ 1 rfl) ?_) | (refine sO 2 10 (L.bk_ 0 rfl) rfl rfl ?_))
 generalize hal:World.setRow _ _ _=w4
 replace L:=L.rr0 hal
 clear hal
 refine eC Tryz.results158 (L.bk_ 0 rfl) ?_
 exact ⟨rfl,L.K⟩
theorem again_other (hk:s.kind≠1) :
  Calls Tryz.prog 158 #[.agg (opv h s)] w (RetOp h (againS s) w):=by
 have e0:(s.kind == 1)=false:=by simp [hk]
 rw [show againS s=⟨s.kind,s.addr,s.err,s.aad,s.used,8,s.shard,s.sought,s.leaf,s.bit,0,s.full,s.at_,s.tries,s.item,s.stamp⟩ by unfold againS;rw [if_neg hk]]
 clear hk
 rcases s with ⟨kind,addr,err,aad,used,phase,shard,sought,leaf,bit,word,full,at_,tries,item,stamp⟩
 rcases h with ⟨A0,n0,c0,A1,n1,c1,A2,n2,c2,A3,n3,c3⟩
 dsimp only at *
 go_enter Tryz.func158,Tryz.ntmps158
 go_upto_region 1 with (fail)
 have L:=Loc.start w
 generalize hal:World.alloc _ _=w1
 replace L:=L.a2 hal
 clear hal
 replace L:=L.is0 (opv hd0 sc0) rfl
 generalize w.heap.size+1=gR at L ⊢
 generalize w.heap.size=gO at L ⊢
 have O_8:=L.at_ 1 8 rfl (v:=.int .i64 phase) rfl
 have O_13:=L.at_ 1 13 rfl (v:=.int .u64 ((word:Nat):Int)) rfl
 have O_z:=L.lt 1 rfl
 have O_f8:=L.fz 1 8 rfl
 have O_f13:=L.fz 1 13 rfl
 go_upto_region 2 with fail
 clear O_8 O_13 O_z O_f8 O_f13
 replace L:=(((L.set 1 8 rfl (.int .i64 8)).set 1 13 rfl (.int .u64 0)).is 1 (opv ⟨A0,n0,c0,A1,n1,c1,A2,n2,c2,A3,n3,c3⟩ ⟨kind,addr,err,aad,used,8,shard,sought,leaf,bit,0,full,at_,tries,item,stamp⟩) rfl)
 try dsimp only [nput] at L
 generalize ((w1).setCell ⟨gO,8,none⟩ (.int .i64 8)).setCell ⟨gO,13,none⟩ (.int .u64 0)=w2 at L ⊢
 have O_0:=L.at_ 1 0 rfl (v:=.int .i64 kind) rfl
 have O_z:=L.lt 1 rfl
 go_wp2_with (first | (refine lO 1 (L.bk_ 1 rfl) ?_) | (refine sO 2 10 (L.bk_ 0 rfl) rfl rfl ?_))
 clear O_0 O_z
 generalize hal:World.setRow _ _ _=w3
 replace L:=L.rr0 hal
 clear hal
 refine eC Tryz.results158 (L.bk_ 0 rfl) ?_
 exact ⟨rfl,L.K⟩
theorem again_any :
  Calls Tryz.prog 158 #[.agg (opv h s)] w (RetOp h (againS s) w):=by
 by_cases hk:s.kind=1
 ·exact again_grant hk
 ·exact again_other hk
theorem look_found (hL:Lists lo w h l) (hU:US w B m d ys) (hlf:s.leaf=(lf:Int)) (hlm:lf<m) (hs0:0≤s.sought) (hs1:s.sought≤65536) (hb:fb (gt ys lf) 32=true) :
  Calls Tryz.prog 143 #[.agg #[.int .u32 (a:Int),.int .i64 p,.slice A n c,.int .i64 sh,.int .i64 wo,.int .i64 qu,.int .i64 tr],.slice B m d,.agg (opv h s)] w (RetStp lo h.n0 (fndS s (gt ys lf) (fi (gt ys lf) 32)) l m ys false B w):=by
 have TL:=fun w (U:US w B m d ys)=>Lib.hid (load_nat U lf hlm)
 have TF:=fun w=>Lib.hid (wfirst_any (gt ys lf) (gt_lt hU.fit lf) w)
 simp only [hb] at TF
 generalize fi (gt ys lf) 32=f at TF ⊢
 clear hb
 generalize gt ys lf=x at TL TF ⊢
 rcases s with ⟨kind,addr,err,aad,used,phase,shard,sought,leaf,bit,word,full,at_,tries,item,stamp⟩
 rcases h with ⟨A0,n0,c0,A1,n1,c1,A2,n2,c2,A3,n3,c3⟩
 dsimp only at *
 subst hlf
 go_enter Tryz.func143,Tryz.ntmps143
 go_upto_region 1 with (fail)
 have L:=Loc.start w
 generalize hal:World.alloc _ _=w1
 replace L:=L.a3 hal
 clear hal
 replace L:=L.is0 (opv hd0 sc0) rfl
 generalize w.heap.size+1+1=gR at L ⊢
 generalize w.heap.size+1=gO at L ⊢
 generalize w.heap.size=gH at L ⊢
 have O_11:=L.at_ 1 11 rfl (v:=.int .i64 (lf:Int)) rfl
 have O_z:=L.lt 1 rfl
 go_wp2_with fail
 refine ((TL _ (hU.below L.K)).out).mono ?_
 rintro e w' ⟨rfl,rfl⟩
 clear O_11 O_z
 go_wp2_with fail
 refine ((TF _).out).mono ?_
 rintro e w' ⟨rfl,rfl⟩
 have O_8:=L.at_ 1 8 rfl (v:=.int .i64 phase) rfl
 have O_13:=L.at_ 1 13 rfl (v:=.int .u64 ((word:Nat):Int)) rfl
 have O_12:=L.at_ 1 12 rfl (v:=.int .i64 bit) rfl
 have O_z:=L.lt 1 rfl
 have O_f8:=L.fz 1 8 rfl
 have O_f13:=L.fz 1 13 rfl
 have O_f12:=L.fz 1 12 rfl
 go_upto_region 6 with fail
 clear O_8 O_13 O_12 O_z O_f8 O_f13 O_f12
 replace L:=((((L.set 1 8 rfl (.int .i64 3)).set 1 13 rfl (.int .u64 ((x:Nat):Int))).set 1 12 rfl (.int .i64 (f:Int))).is 1 (opv ⟨A0,n0,c0,A1,n1,c1,A2,n2,c2,A3,n3,c3⟩ ⟨kind,addr,err,aad,used,3,shard,sought,(lf:Int),(f:Int),x,full,at_,tries,item,stamp⟩) rfl)
 try dsimp only [nput] at L
 generalize (((w1).setCell ⟨gO,8,none⟩ (.int .i64 3)).setCell ⟨gO,13,none⟩ (.int .u64 ((x:Nat):Int))).setCell ⟨gO,12,none⟩ (.int .i64 (f:Int))=w2 at L ⊢
 replace L:=L.drew
 refine wp_region_held_drew (S:=fun w'=>∃ v_R:Array Value,v_R.size=20∧Loc w w' [(gR,43,v_R),(gO,43,opv ⟨A0,n0,c0,A1,n1,c1,A2,n2,c2,A3,n3,c3⟩ ⟨kind,addr,err,aad,used,3,shard,sought,(lf:Int),(f:Int),x,full,at_,tries,item,stamp⟩),(gH,27,#[.int .u32 (a:Int),.int .i64 p,.slice A n c,.int .i64 sh,.int .i64 wo,.int .i64 qu,.int .i64 tr])] []) (by kernel_rfl) (⟨_,rfl,L⟩) (fun hHeld=>?_)
 generalize w2.drew=v3 at hHeld L ⊢
 refine tg 0 32 (.slice B m d) rfl hHeld ?_
 refine tl 1 33 (.agg (opv ⟨A0,n0,c0,A1,n1,c1,A2,n2,c2,A3,n3,c3⟩ ⟨kind,addr,err,aad,used,3,shard,sought,(lf:Int),(f:Int),x,full,at_,tries,item,stamp⟩)) rfl (yieldsIf_load_row (by rfl) 43 (.tmp 5) rfl gO rfl 43 _ (0,0) _ (fun _ hS=>(hS.choose_spec.2).bk_ 1 rfl) Tryz.underlying43 rfl op_sz) hHeld ?_
 refine tg 2 6 (.slice B m d) rfl hHeld ?_
 refine rn 3 rfl fun K0 hK=>?_
 rw [if_pos (by rfl)]
 refine wp_store_row 43 (.tmp 7) (.tmp 33) rfl gR _ rfl rfl _ _ (L.bk_ 0 rfl) op_sz rfl (opv_one _ _) ?_
 replace L:=L.row 0 rfl (opv ⟨A0,n0,c0,A1,n1,c1,A2,n2,c2,A3,n3,c3⟩ ⟨kind,addr,err,aad,used,3,shard,sought,(lf:Int),(f:Int),x,full,at_,tries,item,stamp⟩)
 try dsimp only [nput] at L
 refine hK.out _ _ ⟨_,rfl,L⟩ ?_
 clear hHeld hK K0
 intro hHeld
 generalize v3.setRow gR (opv ⟨A0,n0,c0,A1,n1,c1,A2,n2,c2,A3,n3,c3⟩ ⟨kind,addr,err,aad,used,3,shard,sought,(lf:Int),(f:Int),x,full,at_,tries,item,stamp⟩)=v4 at hHeld L ⊢
 try simp only [Act.put]
 refine tg 4 8 (.bool false) rfl hHeld ?_
 refine wpAnyH_done (by kernel_rfl) ?_ _
 clear hHeld
 go_wp2
 refine eTCT Tryz.results143 (.slice B m d) (.bool false) (L.bk_ 0 rfl) ?_
 exact ⟨_,_,_,_,_,_,_,_,_,_,_,_,_,rfl,hU.below L.K,hL.below L.K,fun k _ h=>h,L.K⟩
theorem look_seek (hL:Lists lo w h l) (hU:US w B m d ys) (hlf:s.leaf=(lf:Int)) (hlm:lf<m) (hs0:0≤s.sought) (hs1:s.sought≤65536) (hb:fb (gt ys lf) 32=false) (hlt:s.sought+1<sh) :
  Calls Tryz.prog 143 #[.agg #[.int .u32 (a:Int),.int .i64 p,.slice A n c,.int .i64 sh,.int .i64 wo,.int .i64 qu,.int .i64 tr],.slice B m d,.agg (opv h s)] w (RetStp lo h.n0 (seekS s) l m ys false B w):=by
 have TL:=fun w (U:US w B m d ys)=>Lib.hid (load_nat U lf hlm)
 have TF:=fun w=>Lib.hid (wfirst_any (gt ys lf) (gt_lt hU.fit lf) w)
 simp only [hb] at TF
 generalize fi (gt ys lf) 32=f at TF ⊢
 clear hb
 generalize gt ys lf=x at TL TF ⊢
 have TE:=fun w=>Lib.hid (else_seek (w:=w) (a:=a) (p:=p) (wo:=wo) (qu:=qu) (tr:=tr) (A:=A) (n:=n) (c:=c) (h:=h) hs0 hs1 hlt)
 clear hs0 hs1 hlt
 rcases s with ⟨kind,addr,err,aad,used,phase,shard,sought,leaf,bit,word,full,at_,tries,item,stamp⟩
 rcases h with ⟨A0,n0,c0,A1,n1,c1,A2,n2,c2,A3,n3,c3⟩
 dsimp only at *
 subst hlf
 go_enter Tryz.func143,Tryz.ntmps143
 go_upto_region 1 with (fail)
 have L:=Loc.start w
 generalize hal:World.alloc _ _=w1
 replace L:=L.a3 hal
 clear hal
 replace L:=L.is0 (opv hd0 sc0) rfl
 generalize w.heap.size+1+1=gR at L ⊢
 generalize w.heap.size+1=gO at L ⊢
 generalize w.heap.size=gH at L ⊢
 have O_11:=L.at_ 1 11 rfl (v:=.int .i64 (lf:Int)) rfl
 have O_z:=L.lt 1 rfl
 go_wp2_with fail
 refine ((TL _ (hU.below L.K)).out).mono ?_
 rintro e w' ⟨rfl,rfl⟩
 clear O_11 O_z
 go_wp2_with fail
 refine ((TF _).out).mono ?_
 rintro e w' ⟨rfl,rfl⟩
 go_wp2_with (first | (refine lC 3 (L.bk_ 2 rfl) ?_) | (refine lO 5 (L.bk_ 1 rfl) ?_))
 refine ((TE _).out).mono ?_
 rintro e w2 ⟨rfl,K'⟩
 replace L:=L.over K'
 go_wp2_with (refine sO 7 26 (L.bk_ 0 rfl) rfl rfl ?_)
 generalize hal:World.setRow _ _ _=w3
 replace L:=L.rr0 hal
 clear hal
 refine eTCT Tryz.results143 (.slice B m d) (.bool false) (L.bk_ 0 rfl) ?_
 exact ⟨_,_,_,_,_,_,_,_,_,_,_,_,_,rfl,hU.below L.K,hL.below L.K,fun k _ h=>h,L.K⟩
theorem look_first (hL:Lists lo w h l) (hU:US w B m d ys) (hlf:s.leaf=(lf:Int)) (hlm:lf<m) (hs0:0≤s.sought) (hs1:s.sought≤65536) (hb:fb (gt ys lf) 32=false) (hlt:¬ s.sought+1<sh) :
  Calls Tryz.prog 143 #[.agg #[.int .u32 (a:Int),.int .i64 p,.slice A n c,.int .i64 sh,.int .i64 wo,.int .i64 qu,.int .i64 tr],.slice B m d,.agg (opv h s)] w (RetStp lo h.n0 (firstS s) ⟨l.rqs,l.ads,l.ers,[]⟩ m ys false B w):=by
 have TL:=fun w (U:US w B m d ys)=>Lib.hid (load_nat U lf hlm)
 have TF:=fun w=>Lib.hid (wfirst_any (gt ys lf) (gt_lt hU.fit lf) w)
 simp only [hb] at TF
 generalize fi (gt ys lf) 32=f at TF ⊢
 clear hb
 generalize gt ys lf=x at TL TF ⊢
 have TE:=fun w=>Lib.hid (else_first (w:=w) (a:=a) (p:=p) (wo:=wo) (qu:=qu) (tr:=tr) (A:=A) (n:=n) (c:=c) (h:=h) hs0 hs1 hlt)
 clear hs0 hs1 hlt
 rcases s with ⟨kind,addr,err,aad,used,phase,shard,sought,leaf,bit,word,full,at_,tries,item,stamp⟩
 rcases h with ⟨A0,n0,c0,A1,n1,c1,A2,n2,c2,A3,n3,c3⟩
 dsimp only at *
 subst hlf
 go_enter Tryz.func143,Tryz.ntmps143
 go_upto_region 1 with (fail)
 have L:=Loc.start w
 generalize hal:World.alloc _ _=w1
 replace L:=L.a3 hal
 clear hal
 replace L:=L.is0 (opv hd0 sc0) rfl
 generalize w.heap.size+1+1=gR at L ⊢
 generalize w.heap.size+1=gO at L ⊢
 generalize w.heap.size=gH at L ⊢
 have O_11:=L.at_ 1 11 rfl (v:=.int .i64 (lf:Int)) rfl
 have O_z:=L.lt 1 rfl
 go_wp2_with fail
 refine ((TL _ (hU.below L.K)).out).mono ?_
 rintro e w' ⟨rfl,rfl⟩
 clear O_11 O_z
 go_wp2_with fail
 refine ((TF _).out).mono ?_
 rintro e w' ⟨rfl,rfl⟩
 go_wp2_with (first | (refine lC 3 (L.bk_ 2 rfl) ?_) | (refine lO 5 (L.bk_ 1 rfl) ?_))
 refine ((TE _).out).mono ?_
 rintro e w2 ⟨rfl,K'⟩
 replace L:=L.over K'
 go_wp2_with (refine sO 7 26 (L.bk_ 0 rfl) rfl rfl ?_)
 generalize hal:World.setRow _ _ _=w3
 replace L:=L.rr0 hal
 clear hal
 refine eTCT Tryz.results143 (.slice B m d) (.bool false) (L.bk_ 0 rfl) ?_
 exact ⟨_,_,_,_,_,_,_,_,_,_,_,_,_,rfl,hU.below L.K,⟨(hL.below L.K).i0,(hL.below L.K).i1,(hL.below L.K).i2,IS.none_ _ _ _⟩,fun k _ h=>h,L.K⟩
theorem clook_any (hL:Lists lo w h l) (hU:US w B m d ys) (hlf:s.leaf=(lf:Int)) (hlm:lf<m) (hs0:0≤s.sought) (hs1:s.sought≤65536) :
  Calls Tryz.prog 143 #[.agg #[.int .u32 (a:Int),.int .i64 p,.slice A n c,.int .i64 sh,.int .i64 wo,.int .i64 qu,.int .i64 tr],.slice B m d,.agg (opv h s)] w (RetStp lo h.n0 (lookS sh (gt ys lf) s) (lookL sh (gt ys lf) s l) m ys false B w):=by
 unfold lookS lookL
 cases hb:fb (gt ys lf) 32 with
 | true=>rw [if_pos rfl,if_pos rfl];exact look_found hL hU hlf hlm hs0 hs1 hb
 | false =>
  rw [if_neg Bool.false_ne_true,if_neg Bool.false_ne_true]
  by_cases hlt:s.sought+1<sh
  ·rw [if_pos hlt,if_pos hlt];exact look_seek hL hU hlf hlm hs0 hs1 hb hlt
  ·rw [if_neg hlt,if_neg hlt];exact look_first hL hU hlf hlm hs0 hs1 hb hlt
end
end Go.Proofs.YtfhefofkhmkcnaaGreatDoor

/-
 What claim.claim answers. Conditions: a block that may be,an operation whose leaf and bit there are.
-/
namespace Go.Proofs.YtfhefofkhmkcnaaGreatDoor
set_option maxRecDepth 100000
set_option maxRecDepth 100000
open Go.RowKit
set_option maxHeartbeats 8000000
set_option linter.unusedVariables false
section
variable {w:World} {lo lo2 a M m d lf bt:Nat} {p sh wo qu tr:Int} {A B:Option Addr} {n c:Nat} {xs:List Int} {ys:List Nat} {h:Hd} {s:Sc} {l:Ls}
theorem claim_not (ha:a<4294967296) (hM:Much a p M) (hI:IS .u32 lo2 w h.A0 h.n0 h.c0 xs) (hn:h.n0≤65536) (hin:s.kind=4→InB a M h.n0 xs) (hlo:lo≤w.heap.size) (hL:Lists lo w h l) (h1:h.n1≤65536) (h2:h.n2≤65536) (h3:h.n3≤65536) (hU:US w B m d ys) (hm:m≤65536) (hlf:s.leaf=(lf:Int)) (hlm:lf<m) (hbt:s.bit=(bt:Int)) (hb:bt<32) (hof:32*lf+bt<M) (hw:s.word<18446744073709551616) (hne:gt ys lf≠s.word) :
  Calls Tryz.prog 144 #[.agg #[.int .u32 (a:Int),.int .i64 p,.slice A n c,.int .i64 sh,.int .i64 wo,.int .i64 qu,.int .i64 tr],.slice B m d,.agg (opv h s)] w (RetStp lo h.n0 (againS s) l m ys false B w):=by
 have hl5:lf≤65536:=by omega
 have TC:=fun w=>Lib.hid (claim_any s.word bt hw (by omega) w)
 have hyl:clm s.word bt<U64:=clm_lt _ _
 have TS:∀ w,US w B m d ys→Hid (Calls Tryz.prog 135 #[.slice B m d,.int .i64 (lf:Nat),.int .u64 (s.word:Nat),.int .u64 (clm s.word bt:Nat)] w fun e w'=>e=.returned (.tuple #[.slice B m d,.bool false])∧Below w.heap.size w w'):=fun w U=>swap_same U hlm hne
 have TG:=fun w=>Lib.hid (again_any (w:=w) (h:=h) (s:=s))
 generalize clm s.word bt=y at TC TS
 clear hne hyl hin hI hof
 rcases s with ⟨kind,addr,err,aad,used,phase,shard,sought,leaf,bit,word,full,at_,tries,item,stamp⟩
 rcases h with ⟨A0,n0,c0,A1,n1,c1,A2,n2,c2,A3,n3,c3⟩
 dsimp only at *
 subst hlf hbt
 go_enter Tryz.func144,Tryz.ntmps144
 go_upto_region 1 with (fail)
 have L:=Loc.start w
 generalize hal:World.alloc _ _=w1
 replace L:=L.a3 hal
 clear hal
 replace L:=L.is0 (opv hd0 sc0) rfl
 generalize w.heap.size+1+1=gR at L ⊢
 generalize w.heap.size+1=gO at L ⊢
 generalize w.heap.size=gH at L ⊢
 have O_13:=L.at_ 1 13 rfl (v:=.int .u64 ((word:Nat):Int)) rfl
 have O_12:=L.at_ 1 12 rfl (v:=.int .i64 (bt:Int)) rfl
 have O_z:=L.lt 1 rfl
 go_wp2_with fail
 refine ((TC _).out).mono ?_
 rintro e w' ⟨rfl,rfl⟩
 clear O_13 O_12 O_z
 have O_11:=L.at_ 1 11 rfl (v:=.int .i64 (lf:Int)) rfl
 have O_13:=L.at_ 1 13 rfl (v:=.int .u64 ((word:Nat):Int)) rfl
 have O_z:=L.lt 1 rfl
 go_wp2_with fail
 refine ((TS _ (hU.below L.K)).out).mono ?_
 rintro e w2 ⟨rfl,K'⟩
 clear O_11 O_13 O_z
 replace L:=L.over K'
 go_wp2_with (refine lO 5 (L.bk_ 1 rfl) ?_)
 refine ((TG _).out).mono ?_
 rintro e w3 ⟨rfl,K'⟩
 replace L:=L.over K'
 go_wp2_with (refine sO 7 30 (L.bk_ 0 rfl) rfl rfl ?_)
 generalize hal:World.setRow _ _ _=w4
 replace L:=L.rr0 hal
 clear hal
 refine eTCT Tryz.results144 (.slice B m d) (.bool false) (L.bk_ 0 rfl) ?_
 exact ⟨_,_,_,_,_,_,_,_,_,_,_,_,_,rfl,hU.below L.K,hL.below L.K,fun k _ h=>h,L.K⟩
theorem claim_full (ha:a<4294967296) (hM:Much a p M) (hI:IS .u32 lo2 w h.A0 h.n0 h.c0 xs) (hn:h.n0≤65536) (hin:s.kind=4→InB a M h.n0 xs) (hlo:lo≤w.heap.size) (hL:Lists lo w h l) (h1:h.n1≤65536) (h2:h.n2≤65536) (h3:h.n3≤65536) (hU:US w B m d ys) (hm:m≤65536) (hlf:s.leaf=(lf:Int)) (hlm:lf<m) (hbt:s.bit=(bt:Int)) (hb:bt<32) (hof:32*lf+bt<M) (hw:s.word<18446744073709551616) (heq:gt ys lf=s.word) (hfl:fl (clm s.word bt)=true) :
  Calls Tryz.prog 144 #[.agg #[.int .u32 (a:Int),.int .i64 p,.slice A n c,.int .i64 sh,.int .i64 wo,.int .i64 qu,.int .i64 tr],.slice B m d,.agg (opv h s)] w (RetStp lo h.n0 (fullS (adS s (adr a lf bt))) l m (ys.set lf (clm s.word bt)) true B w):=by
 have hl5:lf≤65536:=by omega
 have TC:=fun w=>Lib.hid (claim_any s.word bt hw (by omega) w)
 have hyl:clm s.word bt<U64:=clm_lt _ _
 have TFu:=fun w=>Lib.hid (full_any (clm s.word bt) hyl w)
 simp only [hfl] at TFu
 clear hfl
 have TA:=fun w=>Lib.hid (address_any (w:=w) (a:=a) (p:=p) (32*lf+bt) (by have:=hM.most;omega))
 have TO:=fun w=>Lib.hid (poff_any lf bt hl5 (by omega) w)
 have TS:∀ w,US w B m d ys→Hid (Calls Tryz.prog 135 #[.slice B m d,.int .i64 (lf:Nat),.int .u64 (s.word:Nat),.int .u64 (clm s.word bt:Nat)] w (RetSN m (ys.set lf (clm s.word bt)) w)):=fun w U=>by have:=swap_new U hlm hm hyl;rw [heq] at this;exact this
 obtain ⟨z,hz⟩:∃ z,z=adr a lf bt:=⟨_,rfl⟩
 simp only [show (a+(32*lf+bt))%4294967296=z from hz.symm] at TA
 rw [← hz]
 clear hz heq
 clear hof
 generalize 32*lf+bt=of at TO TA
 have hyl2:=hyl
 generalize clm s.word bt=y at TC TFu TS ⊢
 clear hin hI hyl
 rcases s with ⟨kind,addr,err,aad,used,phase,shard,sought,leaf,bit,word,full,at_,tries,item,stamp⟩
 rcases h with ⟨A0,n0,c0,A1,n1,c1,A2,n2,c2,A3,n3,c3⟩
 dsimp only at *
 subst hlf hbt
 go_enter Tryz.func144,Tryz.ntmps144
 go_upto_region 1 with (fail)
 have L:=Loc.start w
 generalize hal:World.alloc _ _=w1
 replace L:=L.a3 hal
 clear hal
 replace L:=L.is0 (opv hd0 sc0) rfl
 generalize w.heap.size+1+1=gR at L ⊢
 generalize w.heap.size+1=gO at L ⊢
 generalize w.heap.size=gH at L ⊢
 have O_13:=L.at_ 1 13 rfl (v:=.int .u64 ((word:Nat):Int)) rfl
 have O_12:=L.at_ 1 12 rfl (v:=.int .i64 (bt:Int)) rfl
 have O_z:=L.lt 1 rfl
 go_wp2_with fail
 refine ((TC _).out).mono ?_
 rintro e w' ⟨rfl,rfl⟩
 clear O_13 O_12 O_z
 have O_11:=L.at_ 1 11 rfl (v:=.int .i64 (lf:Int)) rfl
 have O_13:=L.at_ 1 13 rfl (v:=.int .u64 ((word:Nat):Int)) rfl
 have O_z:=L.lt 1 rfl
 go_wp2_with fail
 have KS:=L.K.size
 refine ((TS _ (hU.below L.K)).out).mono ?_
 rintro e w2 ⟨gS,dS,rfl,U,hgS,K'⟩
 clear O_11 O_13 O_z
 have Lb:=L.lts
 replace L:=L.over K'
 replace L:=L.us_av (fun i b e b' o e'=>by injection e' with e';injection e' with e1;have:=Lb i b e;omega) U
 clear Lb
 try dsimp only [lF,List.cons_append,List.nil_append] at L
 clear U
 replace hgS:=Nat.le_trans KS hgS
 clear KS
 go_upto_region 5 with (fail)
 replace L:=L.drew
 refine wp_region_held_drew (S:=fun w'=>∃ v_O4:Int,Loc w w' [(gR,43,opv hd0 sc0),(gO,43,opv ⟨A0,n0,c0,A1,n1,c1,A2,n2,c2,A3,n3,c3⟩ ⟨kind,addr,err,v_O4,used,phase,shard,sought,(lf:Int),(bt:Int),word,full,at_,tries,item,stamp⟩),(gH,27,#[.int .u32 (a:Int),.int .i64 p,.slice A n c,.int .i64 sh,.int .i64 wo,.int .i64 qu,.int .i64 tr])] [uF (some ⟨gS,0,none⟩) m dS (ys.set lf y)]) (by kernel_rfl) (⟨_,L⟩) (fun hHeld=>?_)
 generalize w2.drew=v3 at hHeld L ⊢
 refine tg 0 31 (.pointer (some ⟨gH,0,none⟩)) rfl hHeld ?_
 refine ty 1 32 (.agg #[.int .u32 (a:Int),.int .i64 p]) rfl ?_ hHeld ?_
 ·intro ww hS
  try dsimp only at hS
  have H_0:=(hS.choose_spec).at_ 2 0 rfl (v:=.int .u32 (a:Int)) rfl
  have H_z:=(hS.choose_spec).lt 2 rfl
  have H_1:=(hS.choose_spec).at_ 2 1 rfl (v:=.int .i64 p) rfl
  have H_z:=(hS.choose_spec).lt 2 rfl
  go_simp
  try with_reducible rfl
  try omega
 refine tg 2 33 (.pointer (some ⟨gO,11,none⟩)) rfl hHeld ?_
 refine ty 3 34 (.int .i64 (lf:Int)) rfl ?_ hHeld ?_
 ·intro ww hS
  try dsimp only at hS
  have O_11:=(hS.choose_spec).at_ 1 11 rfl (v:=.int .i64 (lf:Int)) rfl
  have O_z:=(hS.choose_spec).lt 1 rfl
  go_simp
  try with_reducible rfl
  try omega
 refine tg 4 35 (.pointer (some ⟨gO,12,none⟩)) rfl hHeld ?_
 refine ty 5 36 (.int .i64 (bt:Int)) rfl ?_ hHeld ?_
 ·intro ww hS
  try dsimp only at hS
  have O_12:=(hS.choose_spec).at_ 1 12 rfl (v:=.int .i64 (bt:Int)) rfl
  have O_z:=(hS.choose_spec).lt 1 rfl
  go_simp
  try with_reducible rfl
  try omega
 refine rd 6 37 rfl fun K0 hK=>?_
 go_simp
 refine ((TO _).out).mono ?_
 rintro e w' ⟨rfl,rfl⟩
 refine hK.out _ _ ⟨_,L⟩ ?_
 clear hHeld hK K0
 intro hHeld
 try simp only [Act.put,sA,sZ,sS]
 refine rd 7 38 rfl fun K0 hK=>?_
 go_simp
 refine ((TA _).out).mono ?_
 rintro e w4 ⟨rfl,K'⟩
 replace L:=L.over K'
 refine hK.out _ _ ⟨_,L⟩ ?_
 clear hHeld hK K0
 intro hHeld
 clear K'
 try simp only [Act.put,sA,sZ,sS]
 refine tg 8 39 (.pointer (some ⟨gO,3,none⟩)) rfl hHeld ?_
 refine tg 9 40 (.pointer (some ⟨gO,4,none⟩)) rfl hHeld ?_
 refine rn 10 rfl fun K0 hK=>?_
 have S_d:=L.at_ 1 4 rfl (v:=.int .u32 aad) rfl
 have S_z:=L.lt 1 rfl
 have S_f:=L.fz 1 4 rfl
 go_simp
 clear S_d S_z S_f
 replace L:=(L.set 1 4 rfl (.int .u32 (z:Int))).is 1 (opv ⟨A0,n0,c0,A1,n1,c1,A2,n2,c2,A3,n3,c3⟩ ⟨kind,addr,err,(z:Int),used,phase,shard,sought,(lf:Int),(bt:Int),word,full,at_,tries,item,stamp⟩) rfl
 try dsimp only [nput] at L
 refine hK.out _ _ ⟨_,L⟩ ?_
 clear hHeld hK K0
 intro hHeld
 generalize w4.setCell ⟨gO,4,none⟩ (.int .u32 (z:Int))=v5 at hHeld L ⊢
 try simp only [Act.put,sA,sZ,sS]
 refine wpAnyH_done (by kernel_rfl) ?_ _
 clear hHeld
 go_wp2_with fail
 refine ((TFu _).out).mono ?_
 rintro e w' ⟨rfl,rfl⟩
 have O_8:=L.at_ 1 8 rfl (v:=.int .i64 phase) rfl
 have O_14:=L.at_ 1 14 rfl (v:=.bool full) rfl
 have O_16:=L.at_ 1 16 rfl (v:=.int .i64 at_) rfl
 have O_13:=L.at_ 1 13 rfl (v:=.int .u64 ((word:Nat):Int)) rfl
 have O_z:=L.lt 1 rfl
 have O_f8:=L.fz 1 8 rfl
 have O_f14:=L.fz 1 14 rfl
 have O_f16:=L.fz 1 16 rfl
 have O_f13:=L.fz 1 13 rfl
 go_upto_region 9 with fail
 clear O_8 O_14 O_16 O_13 O_z O_f8 O_f14 O_f16 O_f13
 replace L:=(((((L.set 1 8 rfl (.int .i64 4)).set 1 14 rfl (.bool true)).set 1 16 rfl (.int .i64 0)).set 1 13 rfl (.int .u64 0)).is 1 (opv ⟨A0,n0,c0,A1,n1,c1,A2,n2,c2,A3,n3,c3⟩ ⟨kind,addr,err,(z:Int),used,4,shard,sought,(lf:Int),(bt:Int),0,true,0,tries,item,stamp⟩) rfl)
 try dsimp only [nput] at L
 generalize ((((v5).setCell ⟨gO,8,none⟩ (.int .i64 4)).setCell ⟨gO,14,none⟩ (.bool true)).setCell ⟨gO,16,none⟩ (.int .i64 0)).setCell ⟨gO,13,none⟩ (.int .u64 0)=w6 at L ⊢
 replace L:=L.drew
 refine wp_region_held_drew (S:=fun w'=>∃ v_R:Array Value,v_R.size=20∧Loc w w' [(gR,43,v_R),(gO,43,opv ⟨A0,n0,c0,A1,n1,c1,A2,n2,c2,A3,n3,c3⟩ ⟨kind,addr,err,(z:Int),used,4,shard,sought,(lf:Int),(bt:Int),0,true,0,tries,item,stamp⟩),(gH,27,#[.int .u32 (a:Int),.int .i64 p,.slice A n c,.int .i64 sh,.int .i64 wo,.int .i64 qu,.int .i64 tr])] [uF (some ⟨gS,0,none⟩) m dS (ys.set lf y)]) (by kernel_rfl) (⟨_,rfl,L⟩) (fun hHeld=>?_)
 generalize w6.drew=v7 at hHeld L ⊢
 refine tg 0 52 (.slice (some ⟨gS,0,none⟩) m dS) rfl hHeld ?_
 refine tl 1 53 (.agg (opv ⟨A0,n0,c0,A1,n1,c1,A2,n2,c2,A3,n3,c3⟩ ⟨kind,addr,err,(z:Int),used,4,shard,sought,(lf:Int),(bt:Int),0,true,0,tries,item,stamp⟩)) rfl (yieldsIf_load_row (by rfl) 43 (.tmp 5) rfl gO rfl 43 _ (0,0) _ (fun _ hS=>(hS.choose_spec.2).bk_ 1 rfl) Tryz.underlying43 rfl op_sz) hHeld ?_
 refine tg 2 6 (.slice (some ⟨gS,0,none⟩) m dS) rfl hHeld ?_
 refine rn 3 rfl fun K0 hK=>?_
 rw [if_pos (by rfl)]
 refine wp_store_row 43 (.tmp 7) (.tmp 53) rfl gR _ rfl rfl _ _ (L.bk_ 0 rfl) op_sz rfl (opv_one _ _) ?_
 replace L:=L.row 0 rfl (opv ⟨A0,n0,c0,A1,n1,c1,A2,n2,c2,A3,n3,c3⟩ ⟨kind,addr,err,(z:Int),used,4,shard,sought,(lf:Int),(bt:Int),0,true,0,tries,item,stamp⟩)
 try dsimp only [nput] at L
 refine hK.out _ _ ⟨_,rfl,L⟩ ?_
 clear hHeld hK K0
 intro hHeld
 generalize v7.setRow gR (opv ⟨A0,n0,c0,A1,n1,c1,A2,n2,c2,A3,n3,c3⟩ ⟨kind,addr,err,(z:Int),used,4,shard,sought,(lf:Int),(bt:Int),0,true,0,tries,item,stamp⟩)=v8 at hHeld L ⊢
 try simp only [Act.put]
 refine tg 4 8 (.bool true) rfl hHeld ?_
 refine wpAnyH_done (by kernel_rfl) ?_ _
 clear hHeld
 go_wp2
 refine eTCT Tryz.results144 (.slice (some ⟨gS,0,none⟩) m dS) (.bool true) (L.bk_ 0 rfl) ?_
 exact ⟨_,_,_,_,_,_,_,_,_,_,_,_,_,rfl,L.us_ 0 rfl,hL.below L.K,fun k hk _ b o e=>by injection e with e;injection e with e1;omega,L.K⟩
theorem claim_go (ha:a<4294967296) (hM:Much a p M) (hI:IS .u32 lo2 w h.A0 h.n0 h.c0 xs) (hn:h.n0≤65536) (hin:s.kind=4→InB a M h.n0 xs) (hlo:lo≤w.heap.size) (hL:Lists lo w h l) (h1:h.n1≤65536) (h2:h.n2≤65536) (h3:h.n3≤65536) (hU:US w B m d ys) (hm:m≤65536) (hlf:s.leaf=(lf:Int)) (hlm:lf<m) (hbt:s.bit=(bt:Int)) (hb:bt<32) (hof:32*lf+bt<M) (hw:s.word<18446744073709551616) (heq:gt ys lf=s.word) (hfl:fl (clm s.word bt)=false) :
  Calls Tryz.prog 144 #[.agg #[.int .u32 (a:Int),.int .i64 p,.slice A n c,.int .i64 sh,.int .i64 wo,.int .i64 qu,.int .i64 tr],.slice B m d,.agg (opv h s)] w (RetStp lo h.n0 (gon a h.n0 xs (adS s (adr a lf bt))) l m (ys.set lf (clm s.word bt)) true B w):=by
 have TG:=fun w z (hI:IS .u32 lo2 w h.A0 h.n0 h.c0 xs) (hL:Lists lo w h l)=>Lib.hid (goes_any (w:=w) (sh:=sh) (wo:=wo) (qu:=qu) (tr:=tr) (A:=A) (n:=n) (c:=c) (s:=adS s z) ha hM hn hI hin hL h1 h2 h3)
 have hl5:lf≤65536:=by omega
 have TC:=fun w=>Lib.hid (claim_any s.word bt hw (by omega) w)
 have hyl:clm s.word bt<U64:=clm_lt _ _
 have TFu:=fun w=>Lib.hid (full_any (clm s.word bt) hyl w)
 simp only [hfl] at TFu
 clear hfl
 have TA:=fun w=>Lib.hid (address_any (w:=w) (a:=a) (p:=p) (32*lf+bt) (by have:=hM.most;omega))
 have TO:=fun w=>Lib.hid (poff_any lf bt hl5 (by omega) w)
 have TS:∀ w,US w B m d ys→Hid (Calls Tryz.prog 135 #[.slice B m d,.int .i64 (lf:Nat),.int .u64 (s.word:Nat),.int .u64 (clm s.word bt:Nat)] w (RetSN m (ys.set lf (clm s.word bt)) w)):=fun w U=>by have:=swap_new U hlm hm hyl;rw [heq] at this;exact this
 obtain ⟨z,hz⟩:∃ z,z=adr a lf bt:=⟨_,rfl⟩
 simp only [show (a+(32*lf+bt))%4294967296=z from hz.symm] at TA
 rw [← hz]
 clear hz heq
 clear hof
 generalize 32*lf+bt=of at TO TA
 have hyl2:=hyl
 generalize clm s.word bt=y at TC TFu TS ⊢
 clear hin hyl
 rcases s with ⟨kind,addr,err,aad,used,phase,shard,sought,leaf,bit,word,full,at_,tries,item,stamp⟩
 rcases h with ⟨A0,n0,c0,A1,n1,c1,A2,n2,c2,A3,n3,c3⟩
 dsimp only at *
 subst hlf hbt
 go_enter Tryz.func144,Tryz.ntmps144
 go_upto_region 1 with (fail)
 have L:=Loc.start w
 generalize hal:World.alloc _ _=w1
 replace L:=L.a3 hal
 clear hal
 replace L:=L.is0 (opv hd0 sc0) rfl
 generalize w.heap.size+1+1=gR at L ⊢
 generalize w.heap.size+1=gO at L ⊢
 generalize w.heap.size=gH at L ⊢
 have O_13:=L.at_ 1 13 rfl (v:=.int .u64 ((word:Nat):Int)) rfl
 have O_12:=L.at_ 1 12 rfl (v:=.int .i64 (bt:Int)) rfl
 have O_z:=L.lt 1 rfl
 go_wp2_with fail
 refine ((TC _).out).mono ?_
 rintro e w' ⟨rfl,rfl⟩
 clear O_13 O_12 O_z
 have O_11:=L.at_ 1 11 rfl (v:=.int .i64 (lf:Int)) rfl
 have O_13:=L.at_ 1 13 rfl (v:=.int .u64 ((word:Nat):Int)) rfl
 have O_z:=L.lt 1 rfl
 go_wp2_with fail
 have KS:=L.K.size
 refine ((TS _ (hU.below L.K)).out).mono ?_
 rintro e w2 ⟨gS,dS,rfl,U,hgS,K'⟩
 clear O_11 O_13 O_z
 have Lb:=L.lts
 replace L:=L.over K'
 replace L:=L.us_av (fun i b e b' o e'=>by injection e' with e';injection e' with e1;have:=Lb i b e;omega) U
 clear Lb
 try dsimp only [lF,List.cons_append,List.nil_append] at L
 clear U
 replace hgS:=Nat.le_trans KS hgS
 clear KS
 go_upto_region 5 with (fail)
 replace L:=L.drew
 refine wp_region_held_drew (S:=fun w'=>∃ v_O4:Int,Loc w w' [(gR,43,opv hd0 sc0),(gO,43,opv ⟨A0,n0,c0,A1,n1,c1,A2,n2,c2,A3,n3,c3⟩ ⟨kind,addr,err,v_O4,used,phase,shard,sought,(lf:Int),(bt:Int),word,full,at_,tries,item,stamp⟩),(gH,27,#[.int .u32 (a:Int),.int .i64 p,.slice A n c,.int .i64 sh,.int .i64 wo,.int .i64 qu,.int .i64 tr])] [uF (some ⟨gS,0,none⟩) m dS (ys.set lf y)]) (by kernel_rfl) (⟨_,L⟩) (fun hHeld=>?_)
 generalize w2.drew=v3 at hHeld L ⊢
 refine tg 0 31 (.pointer (some ⟨gH,0,none⟩)) rfl hHeld ?_
 refine ty 1 32 (.agg #[.int .u32 (a:Int),.int .i64 p]) rfl ?_ hHeld ?_
 ·intro ww hS
  try dsimp only at hS
  have H_0:=(hS.choose_spec).at_ 2 0 rfl (v:=.int .u32 (a:Int)) rfl
  have H_z:=(hS.choose_spec).lt 2 rfl
  have H_1:=(hS.choose_spec).at_ 2 1 rfl (v:=.int .i64 p) rfl
  have H_z:=(hS.choose_spec).lt 2 rfl
  go_simp
  try with_reducible rfl
  try omega
 refine tg 2 33 (.pointer (some ⟨gO,11,none⟩)) rfl hHeld ?_
 refine ty 3 34 (.int .i64 (lf:Int)) rfl ?_ hHeld ?_
 ·intro ww hS
  try dsimp only at hS
  have O_11:=(hS.choose_spec).at_ 1 11 rfl (v:=.int .i64 (lf:Int)) rfl
  have O_z:=(hS.choose_spec).lt 1 rfl
  go_simp
  try with_reducible rfl
  try omega
 refine tg 4 35 (.pointer (some ⟨gO,12,none⟩)) rfl hHeld ?_
 refine ty 5 36 (.int .i64 (bt:Int)) rfl ?_ hHeld ?_
 ·intro ww hS
  try dsimp only at hS
  have O_12:=(hS.choose_spec).at_ 1 12 rfl (v:=.int .i64 (bt:Int)) rfl
  have O_z:=(hS.choose_spec).lt 1 rfl
  go_simp
  try with_reducible rfl
  try omega
 refine rd 6 37 rfl fun K0 hK=>?_
 go_simp
 refine ((TO _).out).mono ?_
 rintro e w' ⟨rfl,rfl⟩
 refine hK.out _ _ ⟨_,L⟩ ?_
 clear hHeld hK K0
 intro hHeld
 try simp only [Act.put,sA,sZ,sS]
 refine rd 7 38 rfl fun K0 hK=>?_
 go_simp
 refine ((TA _).out).mono ?_
 rintro e w4 ⟨rfl,K'⟩
 replace L:=L.over K'
 refine hK.out _ _ ⟨_,L⟩ ?_
 clear hHeld hK K0
 intro hHeld
 clear K'
 try simp only [Act.put,sA,sZ,sS]
 refine tg 8 39 (.pointer (some ⟨gO,3,none⟩)) rfl hHeld ?_
 refine tg 9 40 (.pointer (some ⟨gO,4,none⟩)) rfl hHeld ?_
 refine rn 10 rfl fun K0 hK=>?_
 have S_d:=L.at_ 1 4 rfl (v:=.int .u32 aad) rfl
 have S_z:=L.lt 1 rfl
 have S_f:=L.fz 1 4 rfl
 go_simp
 clear S_d S_z S_f
 replace L:=(L.set 1 4 rfl (.int .u32 (z:Int))).is 1 (opv ⟨A0,n0,c0,A1,n1,c1,A2,n2,c2,A3,n3,c3⟩ ⟨kind,addr,err,(z:Int),used,phase,shard,sought,(lf:Int),(bt:Int),word,full,at_,tries,item,stamp⟩) rfl
 try dsimp only [nput] at L
 refine hK.out _ _ ⟨_,L⟩ ?_
 clear hHeld hK K0
 intro hHeld
 generalize w4.setCell ⟨gO,4,none⟩ (.int .u32 (z:Int))=v5 at hHeld L ⊢
 try simp only [Act.put,sA,sZ,sS]
 refine wpAnyH_done (by kernel_rfl) ?_ _
 clear hHeld
 go_wp2_with fail
 refine ((TFu _).out).mono ?_
 rintro e w' ⟨rfl,rfl⟩
 go_wp2_with (first | (refine lC 3 (L.bk_ 2 rfl) ?_) | (refine lO 5 (L.bk_ 1 rfl) ?_))
 have KS:=L.K.size
 refine ((TG _ z (hI.below L.K) (hL.below L.K)).out).mono ?_
 rintro e w6 ⟨A0',c0',A1',c1',A2',c2',A3',c3',rfl,L',K'⟩
 have Lb:=L.lts
 replace L:=L.over K'
 replace L:=L.lists Lb L'
 clear Lb
 try dsimp only [lF,List.cons_append,List.nil_append] at L
 clear L'
 go_wp2_with (refine sO 7 47 (L.bk_ 0 rfl) rfl rfl ?_)
 generalize hal:World.setRow _ _ _=w7
 replace L:=L.rr0 hal
 clear hal
 refine eTCT Tryz.results144 (.slice (some ⟨gS,0,none⟩) m dS) (.bool true) (L.bk_ 0 rfl) ?_
 exact ⟨_,_,_,_,_,_,_,_,_,_,_,_,_,rfl,L.us_ 4 rfl,(L.lists_at 0 rfl).lower_ (Nat.le_trans hlo KS),fun k hk _ b o e=>by injection e with e;injection e with e1;omega,L.K⟩
theorem claim_stp (ha:a<4294967296) (hM:Much a p M) (hI:IS .u32 lo2 w h.A0 h.n0 h.c0 xs) (hn:h.n0≤65536) (hin:s.kind=4→InB a M h.n0 xs) (hlo:lo≤w.heap.size) (hL:Lists lo w h l) (h1:h.n1≤65536) (h2:h.n2≤65536) (h3:h.n3≤65536) (hU:US w B m d ys) (hm:m≤65536) (hlf:s.leaf=(lf:Int)) (hlm:lf<m) (hbt:s.bit=(bt:Int)) (hb:bt<32) (hof:32*lf+bt<M) (hw:s.word<18446744073709551616) :
  Calls Tryz.prog 144 #[.agg #[.int .u32 (a:Int),.int .i64 p,.slice A n c,.int .i64 sh,.int .i64 wo,.int .i64 qu,.int .i64 tr],.slice B m d,.agg (opv h s)] w (RetStp lo h.n0 (claimS a h.n0 xs (gt ys lf) s) l m (claimC ys s) (decide (gt ys lf=s.word)) B w):=by
 unfold claimS claimC
 rw [hlf,hbt,Int.toNat_natCast,Int.toNat_natCast]
 by_cases heq:gt ys lf=s.word
 ·rw [if_pos heq,if_pos heq,decide_eq_true heq]
  cases hfl:fl (clm s.word bt) with
  | true=>rw [if_pos rfl];exact claim_full ha hM hI hn hin hlo hL h1 h2 h3 hU hm hlf hlm hbt hb hof hw heq hfl
  | false=>rw [if_neg Bool.false_ne_true];exact claim_go ha hM hI hn hin hlo hL h1 h2 h3 hU hm hlf hlm hbt hb hof hw heq hfl
 ·rw [if_neg heq,if_neg heq,decide_eq_false heq]
  exact claim_not ha hM hI hn hin hlo hL h1 h2 h3 hU hm hlf hlm hbt hb hof hw heq
end
end Go.Proofs.YtfhefofkhmkcnaaGreatDoor

/-
 What claim.Step answers of an operation that looks,or claims. Conditions: a block that may be,an operation whose leaf and bit there are.
-/
namespace Go.Proofs.YtfhefofkhmkcnaaGreatDoor
set_option maxRecDepth 100000
set_option maxRecDepth 100000
open Go.RowKit
set_option maxHeartbeats 8000000
set_option linter.unusedVariables false
theorem cph_z (w:World):(zeroValue 154).run Tryz.prog w=.ok .nilFunc w:=by kernel_rfl
abbrev cph_l:List (Int×Nat):=[(3,144),(2,143)]
theorem cph_any (w:World) :
  Calls Tryz.prog 128 #[] w fun e w'=>∃ gm,e=.returned (.map (some gm))∧FMap w' gm cph_l∧w.heap.size≤gm∧Below w.heap.size w w':=by
 have hmm:=@run_makeMap Tryz.prog
 have O0:FMap (w.alloc (.map #[] 0)) w.heap.size []:=World.ownsMap_made w Tryz.prog 3 fnElem
 have K0:=below_alloc w (.map #[] 0)
 go_enter Tryz.func128,Tryz.ntmps128
 obtain ⟨w1,H1,O1,G1⟩:=O0.put Tryz.underlying156 (by decide) 2 143 (by decide)
 obtain ⟨w2,H2,O2,G2⟩:=O1.put Tryz.underlying156 (by decide) 3 144 (by decide)
 go_wp2
 have K1:=K0.grown G1 (Nat.le_trans (Nat.le_refl _) K0.size) (by intro j hj;injection hj with hj;omega)
 have K2:=K1.grown G2 (Nat.le_trans (Nat.le_refl _) K1.size) (by intro j hj;injection hj with hj;omega)
 go_ret
 exact ⟨_,rfl,O2,Nat.le_refl _,K2⟩
section
variable {w:World} {lo lo2 a M m d lf bt:Nat} {p sh wo qu tr:Int} {A B:Option Addr} {n c:Nat} {xs:List Int} {ys:List Nat} {h:Hd} {s:Sc} {l:Ls}
theorem cstep_look (hL:Lists lo w h l) (hn:h.n0≤65536) (h1:h.n1≤65536) (h2:h.n2≤65536) (h3:h.n3≤65536) (hU:US w B m d ys) (hlf:s.leaf=(lf:Int)) (hlm:lf<m) (hs0:0≤s.sought) (hs1:s.sought≤65536) (hph:s.phase=2) :
  Calls Tryz.prog 118 #[.agg #[.int .u32 (a:Int),.int .i64 p,.slice A n c,.int .i64 sh,.int .i64 wo,.int .i64 qu,.int .i64 tr],.slice B m d,.agg (opv h s)] w (RetStp w.heap.size h.n0 (lookS sh (gt ys lf) s) (lookL sh (gt ys lf) s l) m ys false B w):=by
 have TOwn:=fun w (L:Lists lo w h l)=>Lib.hid (own_any (s:=s) L hn h1 h2 h3)
 have hm0:0<m:=by omega
 have TK:=fun w lo A0 c0 A1 c1 A2 c2 A3 c3 (l:Ls) (hL:Lists lo w ⟨A0,h.n0,c0,A1,h.n1,c1,A2,h.n2,c2,A3,h.n3,c3⟩ l) (hU:US w B m d ys)=>Lib.hid (clook_any (w:=w) (a:=a) (p:=p) (sh:=sh) (wo:=wo) (qu:=qu) (tr:=tr) (A:=A) (n:=n) (c:=c) (s:=s) hL hU hlf hlm hs0 hs1)
 clear hlf hs0 hs1
 rcases s with ⟨kind,addr,err,aad,used,phase,shard,sought,leaf,bit,word,full,at_,tries,item,stamp⟩
 rcases h with ⟨A0,n0,c0,A1,n1,c1,A2,n2,c2,A3,n3,c3⟩
 dsimp only at *
 subst hph
 go_enter Tryz.func118,Tryz.ntmps118
 go_upto_region 1 with (fail)
 have L:=Loc.start w
 generalize hal:World.alloc _ _=w1
 replace L:=L.a3 hal
 clear hal
 replace L:=L.is0 (opv hd0 sc0) rfl
 generalize w.heap.size+1+1=gR at L ⊢
 generalize w.heap.size+1=gO at L ⊢
 generalize w.heap.size=gH at L ⊢
 go_wp2_with (refine lO 5 (L.bk_ 1 rfl) ?_)
 have KS:=L.K.size
 have LbO:=L.gs
 refine ((TOwn _ (hL.below L.K)).out).mono ?_
 rintro e w2 ⟨A0',c0',A1',c1',A2',c2',A3',c3',rfl,L',K'⟩
 have Lb:=L.lts
 replace L:=L.over K'
 replace L:=L.lists Lb L'
 replace L:=L.sz K'.size
 clear Lb
 try dsimp only [lF,List.cons_append,List.nil_append] at L
 clear L'
 go_upto_region 2 with (refine sO 5 12 (L.bk_ 1 rfl) rfl rfl ?_)
 generalize hal:World.setRow _ _ _=w3
 replace L:=L.rr1 hal
 clear hal
 refine rg L fun v4 hHeld=>?_
 replace L:=hHeld
 refine tg 1 15 (.pointer (some ⟨gO,8,none⟩)) rfl hHeld ?_
 refine tC 2 16 1 8 rfl rfl rfl hHeld ?_
 refine rd 0 14 rfl fun K0 hK=>?_
 go_simp
 refine (cph_any _).mono ?_
 rintro e w5 ⟨gm,rfl,hF,hgm,K'⟩
 have Lb:=L.lts
 replace L:=L.over K'
 replace L:=L.map_new Lb hgm hF
 clear Lb
 try dsimp only [lF,List.cons_append,List.nil_append] at L
 clear hF hgm
 refine hK.out _ _ (L.less 1) ?_
 clear hHeld hK K0
 intro hHeld
 clear K'
 try simp only [Act.put,sA,sZ,sS]
 refine rd 3 17 rfl fun K0 hK=>?_
 have hrun:=FMap.look (L.get 0 rfl:FMap _ gm cph_l) Tryz.underlying156 (cph_z _) (k:=2) (by decide) (f:=143) rfl
 go_simp
 refine hK.out _ _ hHeld ?_
 clear hHeld hK K0
 intro hHeld
 try simp only [Act.put,sA,sZ,sS]
 clear hrun
 refine tz 4 13 rfl hHeld ?_
 refine tg 5 18 (.func (.func 143) #[] #[]) rfl hHeld ?_
 refine tg 6 19 (.bool true) rfl hHeld ?_
 refine tg 7 9 (.func (.func 143) #[] #[]) rfl hHeld ?_
 refine tg 8 10 (.bool true) rfl hHeld ?_
 refine wpAnyH_done (by kernel_rfl) ?_ _
 clear hHeld
 go_wp2_with (first | (refine lC 3 (L.bk_ 2 rfl) ?_) | (refine lO 5 (L.bk_ 1 rfl) ?_))
 have KS2:=L.K.size
 refine ((TK _ _ _ _ _ _ _ _ _ _ _ (L.lists_at 2 rfl) (hU.below L.K)).out).mono ?_
 rintro e w6 ⟨A0'',c0'',A1'',n1'',c1'',A2'',n2'',c2'',A3'',n3'',c3'',B'',d'',rfl,U,L',hA,K'⟩
 have Lb:=L.lts
 replace L:=L.over K'
 replace L:=L.us_av (fun i b e=>hA b.1 (Lb i b e) (hU.apart0 hm0 L i b e)) U
 replace L:=L.lists' LbO L'
 clear Lb
 try dsimp only [lF,List.cons_append,List.nil_append] at L
 clear L' U
 go_wp2_with (refine sO 7 30 (L.bk_ 0 rfl) rfl rfl ?_)
 generalize hal:World.setRow _ _ _=w7
 replace L:=L.rr0 hal
 clear hal
 refine eTCT Tryz.results118 (.slice B'' m d'') (.bool false) (L.bk_ 0 rfl) ?_
 exact ⟨_,_,_,_,_,_,_,_,_,_,_,_,_,rfl,L.us_ 4 rfl,(L.lists_at 0 rfl).lower_ KS,fun k hk=>hA k (Nat.lt_of_lt_of_le hk KS2),L.K⟩
theorem cstep_claim (ha:a<4294967296) (hM:Much a p M) (hI:IS .u32 lo2 w h.A0 h.n0 h.c0 xs) (hn:h.n0≤65536) (hin:s.kind=4→InB a M h.n0 xs) (hL:Lists lo w h l) (h1:h.n1≤65536) (h2:h.n2≤65536) (h3:h.n3≤65536) (hU:US w B m d ys) (hm:m≤65536) (hlf:s.leaf=(lf:Int)) (hlm:lf<m) (hbt:s.bit=(bt:Int)) (hb:bt<32) (hof:32*lf+bt<M) (hw:s.word<18446744073709551616) (hph:s.phase=3) :
  Calls Tryz.prog 118 #[.agg #[.int .u32 (a:Int),.int .i64 p,.slice A n c,.int .i64 sh,.int .i64 wo,.int .i64 qu,.int .i64 tr],.slice B m d,.agg (opv h s)] w (RetStp w.heap.size h.n0 (claimS a h.n0 xs (gt ys lf) s) l m (claimC ys s) (decide (gt ys lf=s.word)) B w):=by
 have TOwn:=fun w (L:Lists lo w h l)=>Lib.hid (own_any (s:=s) L hn h1 h2 h3)
 have hm0:0<m:=by omega
 have hrq:=Lib.hid (hL.i0.uniq hI)
 have TK:=fun w lo lo2 A0 c0 A1 c1 A2 c2 A3 c3 (l:Ls) (hI:IS .u32 lo2 w A0 h.n0 c0 xs) (hlo:lo≤w.heap.size) (hL:Lists lo w ⟨A0,h.n0,c0,A1,h.n1,c1,A2,h.n2,c2,A3,h.n3,c3⟩ l) (hU:US w B m d ys)=>Lib.hid (claim_stp (w:=w) (a:=a) (p:=p) (sh:=sh) (wo:=wo) (qu:=qu) (tr:=tr) (A:=A) (n:=n) (c:=c) (s:=s) (h:=⟨A0,h.n0,c0,A1,h.n1,c1,A2,h.n2,c2,A3,h.n3,c3⟩) ha hM hI hn hin hlo hL h1 h2 h3 hU hm hlf hlm hbt hb hof hw)
 clear hlf hbt hin hof hb hw
 rcases s with ⟨kind,addr,err,aad,used,phase,shard,sought,leaf,bit,word,full,at_,tries,item,stamp⟩
 rcases h with ⟨A0,n0,c0,A1,n1,c1,A2,n2,c2,A3,n3,c3⟩
 dsimp only at *
 subst hph
 go_enter Tryz.func118,Tryz.ntmps118
 go_upto_region 1 with (fail)
 have L:=Loc.start w
 generalize hal:World.alloc _ _=w1
 replace L:=L.a3 hal
 clear hal
 replace L:=L.is0 (opv hd0 sc0) rfl
 generalize w.heap.size+1+1=gR at L ⊢
 generalize w.heap.size+1=gO at L ⊢
 generalize w.heap.size=gH at L ⊢
 go_wp2_with (refine lO 5 (L.bk_ 1 rfl) ?_)
 have KS:=L.K.size
 have LbO:=L.gs
 refine ((TOwn _ (hL.below L.K)).out).mono ?_
 rintro e w2 ⟨A0',c0',A1',c1',A2',c2',A3',c3',rfl,L',K'⟩
 have Lb:=L.lts
 replace L:=L.over K'
 replace L:=L.lists Lb L'
 replace L:=L.sz K'.size
 clear Lb
 try dsimp only [lF,List.cons_append,List.nil_append] at L
 clear L'
 go_upto_region 2 with (refine sO 5 12 (L.bk_ 1 rfl) rfl rfl ?_)
 generalize hal:World.setRow _ _ _=w3
 replace L:=L.rr1 hal
 clear hal
 refine rg L fun v4 hHeld=>?_
 replace L:=hHeld
 refine tg 1 15 (.pointer (some ⟨gO,8,none⟩)) rfl hHeld ?_
 refine tC 2 16 1 8 rfl rfl rfl hHeld ?_
 refine rd 0 14 rfl fun K0 hK=>?_
 go_simp
 refine (cph_any _).mono ?_
 rintro e w5 ⟨gm,rfl,hF,hgm,K'⟩
 have Lb:=L.lts
 replace L:=L.over K'
 replace L:=L.map_new Lb hgm hF
 clear Lb
 try dsimp only [lF,List.cons_append,List.nil_append] at L
 clear hF hgm
 refine hK.out _ _ (L.less 1) ?_
 clear hHeld hK K0
 intro hHeld
 clear K'
 try simp only [Act.put,sA,sZ,sS]
 refine rd 3 17 rfl fun K0 hK=>?_
 have hrun:=FMap.look (L.get 0 rfl:FMap _ gm cph_l) Tryz.underlying156 (cph_z _) (k:=3) (by decide) (f:=144) rfl
 go_simp
 refine hK.out _ _ hHeld ?_
 clear hHeld hK K0
 intro hHeld
 try simp only [Act.put,sA,sZ,sS]
 clear hrun
 refine tz 4 13 rfl hHeld ?_
 refine tg 5 18 (.func (.func 144) #[] #[]) rfl hHeld ?_
 refine tg 6 19 (.bool true) rfl hHeld ?_
 refine tg 7 9 (.func (.func 144) #[] #[]) rfl hHeld ?_
 refine tg 8 10 (.bool true) rfl hHeld ?_
 refine wpAnyH_done (by kernel_rfl) ?_ _
 clear hHeld
 go_wp2_with (first | (refine lC 3 (L.bk_ 2 rfl) ?_) | (refine lO 5 (L.bk_ 1 rfl) ?_))
 have KS2:=L.K.size
 refine ((TK _ _ _ _ _ _ _ _ _ _ _ _ ((L.lists_at 2 rfl).asked hrq.out) (L.sz_ 1 rfl) (L.lists_at 2 rfl) (hU.below L.K)).out).mono ?_
 rintro e w6 ⟨A0'',c0'',A1'',n1'',c1'',A2'',n2'',c2'',A3'',n3'',c3'',B'',d'',rfl,U,L',hA,K'⟩
 have Lb:=L.lts
 replace L:=L.over K'
 replace L:=L.us_av (fun i b e=>hA b.1 (Lb i b e) (hU.apart0 hm0 L i b e)) U
 replace L:=L.lists' LbO L'
 clear Lb
 try dsimp only [lF,List.cons_append,List.nil_append] at L
 clear L' U
 go_wp2_with (refine sO 7 30 (L.bk_ 0 rfl) rfl rfl ?_)
 generalize hal:World.setRow _ _ _=w7
 replace L:=L.rr0 hal
 clear hal
 refine eTCT Tryz.results118 (.slice B'' m d'') (.bool (decide (gt ys lf=word))) (L.bk_ 0 rfl) ?_
 exact ⟨_,_,_,_,_,_,_,_,_,_,_,_,_,rfl,L.us_ 4 rfl,(L.lists_at 0 rfl).lower_ KS,fun k hk=>hA k (Nat.lt_of_lt_of_le hk KS2),L.K⟩
end
end Go.Proofs.YtfhefofkhmkcnaaGreatDoor
