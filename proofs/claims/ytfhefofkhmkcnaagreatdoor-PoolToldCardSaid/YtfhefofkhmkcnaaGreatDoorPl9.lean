/-
  What the functions that these laws call answer, and what follows of it; conditions: those that each theorem names. In this file: HintOwn, HintPure, HintFur, HintSum, HintFind0, HintSwap.
-/
import Derived.Test.YtfhefofkhmkcnaaGreatDoorPl8
import Derived.Deep.Cut
/-
 What hint.own answers: the operation,with four lists of its own. Conditions: at most 65536 items a list.
-/
namespace Go.Proofs.YtfhefofkhmkcnaaGreatDoor
set_option maxRecDepth 100000
set_option maxRecDepth 100000
open Go.RowKit
set_option maxHeartbeats 8000000
def RetOwn (h:Hd) (s:Sc) (l:Ls) (w:World) (e:Ending) (w':World):Prop:=∃ A0 c0 A1 c1 A2 c2 A3 c3,e=.returned (.agg (opv ⟨A0,h.n0,c0,A1,h.n1,c1,A2,h.n2,c2,A3,h.n3,c3⟩ s))∧Lists w.heap.size w' ⟨A0,h.n0,c0,A1,h.n1,c1,A2,h.n2,c2,A3,h.n3,c3⟩ l∧Below w.heap.size w w'
theorem own_any {w:World} {lo:Nat} {h:Hd} {s:Sc} {l:Ls} (L:Lists lo w h l) (h0:h.n0≤65536) (h1:h.n1≤65536) (h2:h.n2≤65536) (h3:h.n3≤65536) :
  Calls Tryz.prog 39 #[.agg (opv h s)] w (RetOwn h s l w):=by
 go_enter Tryz.func39,Tryz.ntmps39
 go_upto_region 1 with (fail)
 have K:=below_alloc w (.cells (opv h s) 43)
 have O:Bk (World.alloc (w) (.cells (opv h s) 43)) (World.heap (w)).size 43 (opv h s):=Bk.new _ _ _
 replace O:=O.alloc (.cells #[.int .i64 0,.int .u32 0,.slice none 0 0,.int .i64 0,.int .u32 0,.bool false,.slice none 0 0,.slice none 0 0,.int .i64 0,.int .i64 0,.int .i64 0,.int .i64 0,.int .i64 0,.int .u64 0,.bool false,.slice none 0 0,.int .i64 0,.int .i64 0,.int .i64 0,.int .i64 0] 43)
 replace K:=Below.then_ K (below_alloc _ (.cells #[.int .i64 0,.int .u32 0,.slice none 0 0,.int .i64 0,.int .u32 0,.bool false,.slice none 0 0,.slice none 0 0,.int .i64 0,.int .i64 0,.int .i64 0,.int .i64 0,.int .i64 0,.int .u64 0,.bool false,.slice none 0 0,.int .i64 0,.int .i64 0,.int .i64 0,.int .i64 0] 43))
 have R:Bk (World.alloc ((w).alloc (.cells (opv h s) 43)) (.cells #[.int .i64 0,.int .u32 0,.slice none 0 0,.int .i64 0,.int .u32 0,.bool false,.slice none 0 0,.slice none 0 0,.int .i64 0,.int .i64 0,.int .i64 0,.int .i64 0,.int .i64 0,.int .u64 0,.bool false,.slice none 0 0,.int .i64 0,.int .i64 0,.int .i64 0,.int .i64 0] 43)) (World.heap ((w).alloc (.cells (opv h s) 43))).size 43 (opv hd0 sc0):=Bk.new _ _ _
 try simp only [World.size_alloc] at O R
 generalize ((w).alloc (.cells (opv h s) 43)).alloc (.cells #[.int .i64 0,.int .u32 0,.slice none 0 0,.int .i64 0,.int .u32 0,.bool false,.slice none 0 0,.slice none 0 0,.int .i64 0,.int .i64 0,.int .i64 0,.int .i64 0,.int .i64 0,.int .u64 0,.bool false,.slice none 0 0,.int .i64 0,.int .i64 0,.int .i64 0,.int .i64 0] 43)=w1 at O R K ⊢
 obtain ⟨gR,hgR⟩:∃ g,g=w.heap.size+1:=⟨_,rfl⟩
 rw [← hgR] at R ⊢
 obtain ⟨gO,hgO⟩:∃ g,g=w.heap.size:=⟨_,rfl⟩
 rw [← hgO] at O ⊢
 have O_b:w.heap.size≤gO:=by omega
 have R_b:w.heap.size≤gR:=by omega
 have ne_O_R:gO≠gR:=by omega
 clear hgO hgR
 have hlt:=R.lt
 have O_2:=O.at_ (v:=.slice h.A0 h.n0 h.c0) 2 rfl
 have O_z:=O.lt
 go_wp2_with fail
 refine (clone32_any (L.i0.below K) h0).mono ?_
 have KS0:=K.size
 rintro e w2 ⟨A0,c0,rfl,I0,K'⟩
 clear O_2 O_z
 have lo0:gO<w1.heap.size:=O.lt
 have lr0:gR<w1.heap.size:=R.lt
 replace O:=O.below K'
 replace R:=R.below K'
 replace K:=Below.then_ K K'
 clear K'
 have O_2:=O.at_ (v:=.slice h.A0 h.n0 h.c0) 2 rfl
 have O_z:=O.lt
 have O_f2:=O.fz 2
 go_upto_region 2 with (fail)
 replace R:=R.far (p:=⟨gO,2,none⟩) (Ne.symm ne_O_R) (.slice A0 h.n0 c0)
 replace O:=O.set_ 2 (.slice A0 h.n0 c0)
 replace I0:=I0.set_low (p:=⟨gO,2,none⟩) lo0 (.slice A0 h.n0 c0)
 replace K:=K.setCell (p:=⟨gO,2,none⟩) O_b (.slice A0 h.n0 c0)
 replace O:Bk ((w2).setCell ⟨gO,2,none⟩ (.slice A0 h.n0 c0)) gO 43 (opv ⟨A0,h.n0,c0,h.A1,h.n1,h.c1,h.A2,h.n2,h.c2,h.A3,h.n3,h.c3⟩ s):=O
 clear O_2 O_z O_f2
 generalize (w2).setCell ⟨gO,2,none⟩ (.slice A0 h.n0 c0)=w3 at O R I0 K ⊢
 have O_6:=O.at_ (v:=.slice h.A1 h.n1 h.c1) 6 rfl
 have O_z:=O.lt
 go_wp2_with fail
 refine (clone32_any (L.i1.below K) h1).mono ?_
 have KS1:=K.size
 rintro e w4 ⟨A1,c1,rfl,I1,K'⟩
 clear O_6 O_z
 have lo1:gO<w3.heap.size:=O.lt
 have lr1:gR<w3.heap.size:=R.lt
 replace O:=O.below K'
 replace R:=R.below K'
 replace I0:=I0.below K'
 replace K:=Below.then_ K K'
 clear K'
 have O_6:=O.at_ (v:=.slice h.A1 h.n1 h.c1) 6 rfl
 have O_z:=O.lt
 have O_f6:=O.fz 6
 go_upto_region 3 with (fail)
 replace R:=R.far (p:=⟨gO,6,none⟩) (Ne.symm ne_O_R) (.slice A1 h.n1 c1)
 replace O:=O.set_ 6 (.slice A1 h.n1 c1)
 replace I0:=I0.set_low (p:=⟨gO,6,none⟩) lo0 (.slice A1 h.n1 c1)
 replace I1:=I1.set_low (p:=⟨gO,6,none⟩) lo1 (.slice A1 h.n1 c1)
 replace K:=K.setCell (p:=⟨gO,6,none⟩) O_b (.slice A1 h.n1 c1)
 replace O:Bk ((w4).setCell ⟨gO,6,none⟩ (.slice A1 h.n1 c1)) gO 43 (opv ⟨A0,h.n0,c0,A1,h.n1,c1,h.A2,h.n2,h.c2,h.A3,h.n3,h.c3⟩ s):=O
 clear O_6 O_z O_f6
 generalize (w4).setCell ⟨gO,6,none⟩ (.slice A1 h.n1 c1)=w5 at O R I0 I1 K ⊢
 have O_7:=O.at_ (v:=.slice h.A2 h.n2 h.c2) 7 rfl
 have O_z:=O.lt
 go_wp2_with fail
 refine (cloneE_any (L.i2.below K) h2).mono ?_
 have KS2:=K.size
 rintro e w6 ⟨A2,c2,rfl,I2,K'⟩
 clear O_7 O_z
 have lo2:gO<w5.heap.size:=O.lt
 have lr2:gR<w5.heap.size:=R.lt
 replace O:=O.below K'
 replace R:=R.below K'
 replace I0:=I0.below K'
 replace I1:=I1.below K'
 replace K:=Below.then_ K K'
 clear K'
 have O_7:=O.at_ (v:=.slice h.A2 h.n2 h.c2) 7 rfl
 have O_z:=O.lt
 have O_f7:=O.fz 7
 go_upto_region 4 with (fail)
 replace R:=R.far (p:=⟨gO,7,none⟩) (Ne.symm ne_O_R) (.slice A2 h.n2 c2)
 replace O:=O.set_ 7 (.slice A2 h.n2 c2)
 replace I0:=I0.set_low (p:=⟨gO,7,none⟩) lo0 (.slice A2 h.n2 c2)
 replace I1:=I1.set_low (p:=⟨gO,7,none⟩) lo1 (.slice A2 h.n2 c2)
 replace I2:=I2.set_low (p:=⟨gO,7,none⟩) lo2 (.slice A2 h.n2 c2)
 replace K:=K.setCell (p:=⟨gO,7,none⟩) O_b (.slice A2 h.n2 c2)
 replace O:Bk ((w6).setCell ⟨gO,7,none⟩ (.slice A2 h.n2 c2)) gO 43 (opv ⟨A0,h.n0,c0,A1,h.n1,c1,A2,h.n2,c2,h.A3,h.n3,h.c3⟩ s):=O
 clear O_7 O_z O_f7
 generalize (w6).setCell ⟨gO,7,none⟩ (.slice A2 h.n2 c2)=w7 at O R I0 I1 I2 K ⊢
 have O_15:=O.at_ (v:=.slice h.A3 h.n3 h.c3) 15 rfl
 have O_z:=O.lt
 go_wp2_with fail
 refine (clone64_any (L.i3.below K) h3).mono ?_
 have KS3:=K.size
 rintro e w8 ⟨A3,c3,rfl,I3,K'⟩
 clear O_15 O_z
 have lo3:gO<w7.heap.size:=O.lt
 have lr3:gR<w7.heap.size:=R.lt
 replace O:=O.below K'
 replace R:=R.below K'
 replace I0:=I0.below K'
 replace I1:=I1.below K'
 replace I2:=I2.below K'
 replace K:=Below.then_ K K'
 clear K'
 have O_15:=O.at_ (v:=.slice h.A3 h.n3 h.c3) 15 rfl
 have O_z:=O.lt
 have O_f15:=O.fz 15
 go_upto_region 5 with (fail)
 replace R:=R.far (p:=⟨gO,15,none⟩) (Ne.symm ne_O_R) (.slice A3 h.n3 c3)
 replace O:=O.set_ 15 (.slice A3 h.n3 c3)
 replace I0:=I0.set_low (p:=⟨gO,15,none⟩) lo0 (.slice A3 h.n3 c3)
 replace I1:=I1.set_low (p:=⟨gO,15,none⟩) lo1 (.slice A3 h.n3 c3)
 replace I2:=I2.set_low (p:=⟨gO,15,none⟩) lo2 (.slice A3 h.n3 c3)
 replace I3:=I3.set_low (p:=⟨gO,15,none⟩) lo3 (.slice A3 h.n3 c3)
 replace K:=K.setCell (p:=⟨gO,15,none⟩) O_b (.slice A3 h.n3 c3)
 replace O:Bk ((w8).setCell ⟨gO,15,none⟩ (.slice A3 h.n3 c3)) gO 43 (opv ⟨A0,h.n0,c0,A1,h.n1,c1,A2,h.n2,c2,A3,h.n3,c3⟩ s):=O
 clear O_15 O_z O_f15
 generalize (w8).setCell ⟨gO,15,none⟩ (.slice A3 h.n3 c3)=w9 at O R I0 I1 I2 I3 K ⊢
 go_wp2_with (first | (refine wpList_load_row rfl 43 (.tmp 1) rfl gO rfl _ _ (0,0) _ O Tryz.underlying43 rfl op_sz ?_) | (refine wpList_store_row rfl 43 (.tmp 2) (.tmp 25) rfl gR _ rfl rfl _ _ R op_sz rfl (opv_one _ _) ?_))
 replace O:=O.row_far ne_O_R (opv ⟨A0,h.n0,c0,A1,h.n1,c1,A2,h.n2,c2,A3,h.n3,c3⟩ s)
 replace R:=R.row (opv ⟨A0,h.n0,c0,A1,h.n1,c1,A2,h.n2,c2,A3,h.n3,c3⟩ s)
 replace I0:=I0.set_row lr0 (opv ⟨A0,h.n0,c0,A1,h.n1,c1,A2,h.n2,c2,A3,h.n3,c3⟩ s)
 replace I1:=I1.set_row lr1 (opv ⟨A0,h.n0,c0,A1,h.n1,c1,A2,h.n2,c2,A3,h.n3,c3⟩ s)
 replace I2:=I2.set_row lr2 (opv ⟨A0,h.n0,c0,A1,h.n1,c1,A2,h.n2,c2,A3,h.n3,c3⟩ s)
 replace I3:=I3.set_row lr3 (opv ⟨A0,h.n0,c0,A1,h.n1,c1,A2,h.n2,c2,A3,h.n3,c3⟩ s)
 replace K:=below_setRow K R_b (opv ⟨A0,h.n0,c0,A1,h.n1,c1,A2,h.n2,c2,A3,h.n3,c3⟩ s)
 generalize w9.setRow gR (opv ⟨A0,h.n0,c0,A1,h.n1,c1,A2,h.n2,c2,A3,h.n3,c3⟩ s)=w10 at O R I0 I1 I2 I3 K ⊢
 refine bodyPost_ret (v:=.agg (opv ⟨A0,h.n0,c0,A1,h.n1,c1,A2,h.n2,c2,A3,h.n3,c3⟩ s)) ?_ rfl ?_
 ·exact results_cell_row (fn:=Tryz.f39) Tryz.results39 _ _ gR _ _ (0,0) _ rfl R Tryz.underlying43 rfl op_sz
 exact ⟨_,_,_,_,_,_,_,_,rfl,⟨I0.lower KS0,I1.lower KS1,I2.lower KS2,I3.lower KS3⟩,K⟩
end Go.Proofs.YtfhefofkhmkcnaaGreatDoor

/-
 Operations that go on,and steps of marking,as functions of numbers and lists. No program in it.
-/
namespace Go.Proofs.YtfhefofkhmkcnaaGreatDoor
set_option maxRecDepth 100000
set_option maxHeartbeats 8000000
set_option maxRecDepth 100000
/-- Is there a further address? -/
def fur (n:Nat) (s:Sc):Bool:=decide (s.kind=4∧0≤s.item∧s.item+1<(n:Int))
/-- The offset of the i-th address. -/
def ofs (a:Nat) (xs:List Int) (i:Nat):Nat:=(gi xs i).toNat - a
/-- The operation, ended. -/
def ende (s:Sc):Sc:=⟨s.kind,s.addr,s.err,s.aad,s.used,0,s.shard,s.sought,s.leaf,s.bit,0,false,0,s.tries,s.item,s.stamp⟩
/-- The operation, at its next address. -/
def next_ (a:Nat) (xs:List Int) (s:Sc):Sc:=⟨s.kind,s.addr,s.err,s.aad,s.used,8,s.shard,s.sought,((ofs a xs (s.item.toNat+1)/32:Nat):Int),((ofs a xs (s.item.toNat+1)%32:Nat):Int),0,false,0,s.tries,s.item+1,s.stamp⟩
/-- The operation, gone on. -/
def gon (a n:Nat) (xs:List Int) (s:Sc):Sc:=if fur n s=true then next_ a xs s else ende s
/-- Every address is the block's. -/
def InB (a M n:Nat) (xs:List Int):Prop:=∀ i,i<n→∃ x:Nat,gi xs i=(x:Int)∧a≤x∧x<a+M
/-- Does the operation go on, when its cell is done? -/
def ends_ (s:Sc):Bool:=decide (s.at_≠0) || (s.full && decide (s.word≠18446744073709551615))
def root_ (s:Sc):Sc:=⟨s.kind,s.addr,s.err,s.aad,s.used,4,s.shard,s.sought,s.leaf,s.bit,s.word,s.full,1,s.tries,s.item,s.stamp⟩
/-- The operation whose cell is done. -/
def dn (a n:Nat) (xs:List Int) (s:Sc):Sc:=if ends_ s=true then gon a n xs s else root_ s
def worded (s:Sc) (x:Nat):Sc:=⟨s.kind,s.addr,s.err,s.aad,s.used,s.phase,s.shard,s.sought,s.leaf,s.bit,x,s.full,s.at_,s.tries,s.item,s.stamp⟩
def setp (s:Sc):Sc:=⟨s.kind,s.addr,s.err,s.aad,s.used,5,s.shard,s.sought,s.leaf,s.bit,s.word,s.full,s.at_,s.tries,s.item,s.stamp⟩
/-- The operation that read x in its cell. -/
def lk (a n:Nat) (xs:List Int) (s:Sc) (x b:Nat):Sc:=if x.testBit b=s.full then dn a n xs (worded s x) else setp (worded s x)
/-- The word, marked. -/
def mkd (x b:Nat) (f:Bool):Nat:=if f=true then setb x b else clrb x b
theorem mkd_lt {x b:Nat} (f:Bool) (hx:x<18446744073709551616) (hb:b<64):mkd x b f<18446744073709551616:=by
 unfold mkd;split
 ·exact setb_lt hx hb
 ·exact clrb_lt hx
/-- Which cell is marked, and which bit of it. -/
def hcel (M:Nat) (s:Sc):Nat:=if s.at_=0 then lv M+s.leaf.toNat/64 else lv M+tv M
def bt (s:Sc):Nat:=if s.at_=0 then s.leaf.toNat%64 else s.leaf.toNat/64
/-- A step of marking: the cells, the operation. -/
def stC (M:Nat) (ys:List Nat) (s:Sc):List Nat:=if s.phase=4 then ys else if gt ys (hcel M s)=s.word then ys.set (hcel M s) (mkd s.word (bt s) s.full) else ys
def stO (a M n:Nat) (xs:List Int) (ys:List Nat) (s:Sc):Sc:=if s.phase=4 then lk a n xs s (gt ys (hcel M s)) (bt s) else dn a n xs (worded s (mkd s.word (bt s) s.full))
end Go.Proofs.YtfhefofkhmkcnaaGreatDoor

/-
 What hint.further,hint.onward and the document's Goes answer of an operation: one operation,gone on. Conditions: at most 65536 addresses,all the block's;Item at most 65536.
-/
namespace Go.Proofs.YtfhefofkhmkcnaaGreatDoor
set_option maxRecDepth 100000
set_option maxRecDepth 100000
open Go.RowKit
set_option maxHeartbeats 8000000
def RetBo (b:Bool) (w:World) (e:Ending) (w':World):Prop:=e=.returned (.bool b)∧Below w.heap.size w w'
def RetOp (h:Hd) (s:Sc) (w:World) (e:Ending) (w':World):Prop:=e=.returned (.agg (opv h s))∧Below w.heap.size w w'
theorem fur0 {w:World} {h:Hd} {s:Sc} (hn:h.n0≤65536) (h0:s.kind≠4) :
  Calls Tryz.prog 163 #[.agg (opv h s)] w (RetBo false w):=by
 rcases s with ⟨kind,addr,err,aad,used,phase,shard,sought,leaf,bit,word,full,at_,tries,item,stamp⟩
 rcases h with ⟨A0,n0,c0,A1,n1,c1,A2,n2,c2,A3,n3,c3⟩
 dsimp only at *
 have e0:(kind == 4)=false:=by simpa using h0
 clear h0
 go_enter Tryz.func163,Tryz.ntmps163
 go_upto_region 1 with (fail)
 have K:=below_alloc w (.cells (opv ⟨A0,n0,c0,A1,n1,c1,A2,n2,c2,A3,n3,c3⟩ ⟨kind,addr,err,aad,used,phase,shard,sought,leaf,bit,word,full,at_,tries,item,stamp⟩) 43)
 have O:Bk (World.alloc (w) (.cells (opv ⟨A0,n0,c0,A1,n1,c1,A2,n2,c2,A3,n3,c3⟩ ⟨kind,addr,err,aad,used,phase,shard,sought,leaf,bit,word,full,at_,tries,item,stamp⟩) 43)) (World.heap (w)).size 43 (opv ⟨A0,n0,c0,A1,n1,c1,A2,n2,c2,A3,n3,c3⟩ ⟨kind,addr,err,aad,used,phase,shard,sought,leaf,bit,word,full,at_,tries,item,stamp⟩):=Bk.new _ _ _
 try simp only [World.size_alloc] at O
 generalize (w).alloc (.cells (opv ⟨A0,n0,c0,A1,n1,c1,A2,n2,c2,A3,n3,c3⟩ ⟨kind,addr,err,aad,used,phase,shard,sought,leaf,bit,word,full,at_,tries,item,stamp⟩) 43)=w1 at O K ⊢
 obtain ⟨gO,hgO⟩:∃ g,g=w.heap.size:=⟨_,rfl⟩
 rw [← hgO] at O ⊢
 have O_b:w.heap.size≤gO:=by omega
 clear hgO
 have O_0:=O.at_ (v:=.int .i64 (kind)) 0 rfl
 have O_18:=O.at_ (v:=.int .i64 (item)) 18 rfl
 have O_2:=O.at_ (v:=.slice A0 n0 c0) 2 rfl
 have O_z:=O.lt
 go_wp2
 go_ret
 exact ⟨rfl,K⟩
theorem fur1 {w:World} {h:Hd} {s:Sc} (hn:h.n0≤65536) (h0:s.kind=4) (h1:s.item<0) :
  Calls Tryz.prog 163 #[.agg (opv h s)] w (RetBo false w):=by
 rcases s with ⟨kind,addr,err,aad,used,phase,shard,sought,leaf,bit,word,full,at_,tries,item,stamp⟩
 rcases h with ⟨A0,n0,c0,A1,n1,c1,A2,n2,c2,A3,n3,c3⟩
 dsimp only at *
 have e0:(kind == 4)=true:=by simpa using h0
 clear h0
 have e1:decide (0≤item)=false:=by simp;omega
 clear h1
 go_enter Tryz.func163,Tryz.ntmps163
 go_upto_region 1 with (fail)
 have K:=below_alloc w (.cells (opv ⟨A0,n0,c0,A1,n1,c1,A2,n2,c2,A3,n3,c3⟩ ⟨kind,addr,err,aad,used,phase,shard,sought,leaf,bit,word,full,at_,tries,item,stamp⟩) 43)
 have O:Bk (World.alloc (w) (.cells (opv ⟨A0,n0,c0,A1,n1,c1,A2,n2,c2,A3,n3,c3⟩ ⟨kind,addr,err,aad,used,phase,shard,sought,leaf,bit,word,full,at_,tries,item,stamp⟩) 43)) (World.heap (w)).size 43 (opv ⟨A0,n0,c0,A1,n1,c1,A2,n2,c2,A3,n3,c3⟩ ⟨kind,addr,err,aad,used,phase,shard,sought,leaf,bit,word,full,at_,tries,item,stamp⟩):=Bk.new _ _ _
 try simp only [World.size_alloc] at O
 generalize (w).alloc (.cells (opv ⟨A0,n0,c0,A1,n1,c1,A2,n2,c2,A3,n3,c3⟩ ⟨kind,addr,err,aad,used,phase,shard,sought,leaf,bit,word,full,at_,tries,item,stamp⟩) 43)=w1 at O K ⊢
 obtain ⟨gO,hgO⟩:∃ g,g=w.heap.size:=⟨_,rfl⟩
 rw [← hgO] at O ⊢
 have O_b:w.heap.size≤gO:=by omega
 clear hgO
 have O_0:=O.at_ (v:=.int .i64 (kind)) 0 rfl
 have O_18:=O.at_ (v:=.int .i64 (item)) 18 rfl
 have O_2:=O.at_ (v:=.slice A0 n0 c0) 2 rfl
 have O_z:=O.lt
 go_wp2
 go_ret
 exact ⟨rfl,K⟩
theorem fur2 {w:World} {h:Hd} {s:Sc} (hn:h.n0≤65536) (h0:s.kind=4) (h1:0≤s.item) (h2:¬ s.item+1<(h.n0:Int)) :
  Calls Tryz.prog 163 #[.agg (opv h s)] w (RetBo false w):=by
 rcases s with ⟨kind,addr,err,aad,used,phase,shard,sought,leaf,bit,word,full,at_,tries,item,stamp⟩
 rcases h with ⟨A0,n0,c0,A1,n1,c1,A2,n2,c2,A3,n3,c3⟩
 dsimp only at *
 have e0:(kind == 4)=true:=by simpa using h0
 clear h0
 have e2:decide (item<(n0:Int) - 1)=false:=by simp;omega
 clear h2
 go_enter Tryz.func163,Tryz.ntmps163
 go_upto_region 1 with (fail)
 have K:=below_alloc w (.cells (opv ⟨A0,n0,c0,A1,n1,c1,A2,n2,c2,A3,n3,c3⟩ ⟨kind,addr,err,aad,used,phase,shard,sought,leaf,bit,word,full,at_,tries,item,stamp⟩) 43)
 have O:Bk (World.alloc (w) (.cells (opv ⟨A0,n0,c0,A1,n1,c1,A2,n2,c2,A3,n3,c3⟩ ⟨kind,addr,err,aad,used,phase,shard,sought,leaf,bit,word,full,at_,tries,item,stamp⟩) 43)) (World.heap (w)).size 43 (opv ⟨A0,n0,c0,A1,n1,c1,A2,n2,c2,A3,n3,c3⟩ ⟨kind,addr,err,aad,used,phase,shard,sought,leaf,bit,word,full,at_,tries,item,stamp⟩):=Bk.new _ _ _
 try simp only [World.size_alloc] at O
 generalize (w).alloc (.cells (opv ⟨A0,n0,c0,A1,n1,c1,A2,n2,c2,A3,n3,c3⟩ ⟨kind,addr,err,aad,used,phase,shard,sought,leaf,bit,word,full,at_,tries,item,stamp⟩) 43)=w1 at O K ⊢
 obtain ⟨gO,hgO⟩:∃ g,g=w.heap.size:=⟨_,rfl⟩
 rw [← hgO] at O ⊢
 have O_b:w.heap.size≤gO:=by omega
 clear hgO
 have O_0:=O.at_ (v:=.int .i64 (kind)) 0 rfl
 have O_18:=O.at_ (v:=.int .i64 (item)) 18 rfl
 have O_2:=O.at_ (v:=.slice A0 n0 c0) 2 rfl
 have O_z:=O.lt
 go_wp2
 go_ret
 exact ⟨rfl,K⟩
theorem fur3 {w:World} {h:Hd} {s:Sc} (hn:h.n0≤65536) (h0:s.kind=4) (h1:0≤s.item) (h2:s.item+1<(h.n0:Int)) :
  Calls Tryz.prog 163 #[.agg (opv h s)] w (RetBo true w):=by
 rcases s with ⟨kind,addr,err,aad,used,phase,shard,sought,leaf,bit,word,full,at_,tries,item,stamp⟩
 rcases h with ⟨A0,n0,c0,A1,n1,c1,A2,n2,c2,A3,n3,c3⟩
 dsimp only at *
 have e0:(kind == 4)=true:=by simpa using h0
 clear h0
 have e2:decide (item<(n0:Int) - 1)=true:=by simp;omega
 clear h2
 go_enter Tryz.func163,Tryz.ntmps163
 go_upto_region 1 with (fail)
 have K:=below_alloc w (.cells (opv ⟨A0,n0,c0,A1,n1,c1,A2,n2,c2,A3,n3,c3⟩ ⟨kind,addr,err,aad,used,phase,shard,sought,leaf,bit,word,full,at_,tries,item,stamp⟩) 43)
 have O:Bk (World.alloc (w) (.cells (opv ⟨A0,n0,c0,A1,n1,c1,A2,n2,c2,A3,n3,c3⟩ ⟨kind,addr,err,aad,used,phase,shard,sought,leaf,bit,word,full,at_,tries,item,stamp⟩) 43)) (World.heap (w)).size 43 (opv ⟨A0,n0,c0,A1,n1,c1,A2,n2,c2,A3,n3,c3⟩ ⟨kind,addr,err,aad,used,phase,shard,sought,leaf,bit,word,full,at_,tries,item,stamp⟩):=Bk.new _ _ _
 try simp only [World.size_alloc] at O
 generalize (w).alloc (.cells (opv ⟨A0,n0,c0,A1,n1,c1,A2,n2,c2,A3,n3,c3⟩ ⟨kind,addr,err,aad,used,phase,shard,sought,leaf,bit,word,full,at_,tries,item,stamp⟩) 43)=w1 at O K ⊢
 obtain ⟨gO,hgO⟩:∃ g,g=w.heap.size:=⟨_,rfl⟩
 rw [← hgO] at O ⊢
 have O_b:w.heap.size≤gO:=by omega
 clear hgO
 have O_0:=O.at_ (v:=.int .i64 (kind)) 0 rfl
 have O_18:=O.at_ (v:=.int .i64 (item)) 18 rfl
 have O_2:=O.at_ (v:=.slice A0 n0 c0) 2 rfl
 have O_z:=O.lt
 go_wp2
 go_ret
 exact ⟨rfl,K⟩
theorem further_any {w:World} {h:Hd} {s:Sc} (hn:h.n0≤65536) :
  Calls Tryz.prog 163 #[.agg (opv h s)] w (RetBo (fur h.n0 s) w):=by
 by_cases h0:s.kind=4
 ·by_cases h1:0≤s.item
  ·by_cases h2:s.item+1<(h.n0:Int)
   ·have e:fur h.n0 s=true:=by unfold fur;simp [h0,h1,h2]
    rw [e];exact fur3 hn h0 h1 h2
   ·have e:fur h.n0 s=false:=by unfold fur;simp [h2]
    rw [e];exact fur2 hn h0 h1 h2
  ·have e:fur h.n0 s=false:=by unfold fur;simp [h1]
   rw [e];exact fur1 hn h0 (by omega)
 ·have e:fur h.n0 s=false:=by unfold fur;simp [h0]
  rw [e];exact fur0 hn h0
end Go.Proofs.YtfhefofkhmkcnaaGreatDoor

/-
 What hint.summaries answers: two closures that tell a leaf's top and the root,with the bits in them. Conditions: a block that may be;a leaf up to 65536.
-/
namespace Go.Proofs.YtfhefofkhmkcnaaGreatDoor
set_option maxRecDepth 100000
set_option maxRecDepth 100000
open Go.RowKit
set_option maxHeartbeats 8000000
set_option linter.unusedVariables false
/-- The closures, over the cells gN (how many addresses) and gE (the leaf). -/
def clos (gN gE:Nat):Array Value:=#[.func (.func 149) #[] #[.pointer (some ⟨gN,0,none⟩),.pointer (some ⟨gE,0,none⟩)],.func (.func 150) #[] #[.pointer (some ⟨gN,0,none⟩),.pointer (some ⟨gE,0,none⟩)]]
def RetClos (M:Nat) (leaf:Int) (w:World) (e:Ending) (w':World):Prop:=∃ gN gE,e=.returned (.agg (clos gN gE))∧Bk w' gN 3 #[.int .i64 M]∧Bk w' gE 3 #[.int .i64 leaf]∧w.heap.size≤gN∧w.heap.size≤gE∧Below w.heap.size w w'
theorem ar_info:(Tryz.prog.info? 165).map (·.size)=some 2:=by kernel_rfl
theorem ar_sz {gN gE:Nat}:(Tryz.prog.info? 165).map (·.size)=some (clos gN gE).size:=ar_info
theorem ar_one (gN gE:Nat):(clos gN gE).all (·.oneCell')=true:=by unfold clos;simp [Value.oneCell']
section
variable {w:World} {lo lo2 a M:Nat} {p sh wo qu tr:Int} {A:Option Addr} {n c:Nat} {xs:List Int} {h:Hd} {s:Sc} {l:Ls}
theorem clo1_any {gN gE l:Nat} (hN:w.cell? ⟨gN,0,none⟩=some (.int .i64 (M:Nat))) (hE:w.cell? ⟨gE,0,none⟩=some (.int .i64 (l:Nat))) (hM:M≤65536) (hl:l≤65536) :
  Calls Tryz.prog 149 #[.pointer (some ⟨gN,0,none⟩),.pointer (some ⟨gE,0,none⟩)] w fun e w'=>e=.returned (.tuple #[.int .i64 (lv M+l/64:Nat),.int .i64 (l%64:Nat)])∧w=w':=by
 have T:=fun w=>Lib.hid (top_any M l hM hl w)
 go_enter Tryz.func149,Tryz.ntmps149
 go_wp2_with ((with_reducible refine ((T _).out).mono ?_);rintro e w' ⟨rfl,rfl⟩)
 go_ret2
 exact ⟨rfl,rfl⟩
theorem clo2_any {gN gE l:Nat} (hN:w.cell? ⟨gN,0,none⟩=some (.int .i64 (M:Nat))) (hE:w.cell? ⟨gE,0,none⟩=some (.int .i64 (l:Nat))) (hM:M≤65536) (hl:l≤65536) :
  Calls Tryz.prog 150 #[.pointer (some ⟨gN,0,none⟩),.pointer (some ⟨gE,0,none⟩)] w fun e w'=>e=.returned (.tuple #[.int .i64 (lv M+tv M:Nat),.int .i64 (l/64:Nat)])∧w=w':=by
 have T:=fun w=>Lib.hid (rootof_any M l hM hl w)
 go_enter Tryz.func150,Tryz.ntmps150
 go_wp2_with ((with_reducible refine ((T _).out).mono ?_);rintro e w' ⟨rfl,rfl⟩)
 go_ret2
 exact ⟨rfl,rfl⟩
theorem summaries_any {leaf:Int} (ha:a<4294967296) (hM:Much a p M) :
  Calls Tryz.prog 132 #[.agg #[.int .u32 a,.int .i64 p,.slice A n c,.int .i64 sh,.int .i64 wo,.int .i64 qu,.int .i64 tr],.int .i64 leaf] w (RetClos M leaf w):=by
 go_enter Tryz.func132,Tryz.ntmps132
 go_upto_region 1 with (fail)
 have K:=below_alloc w (.cells #[.int .u32 a,.int .i64 p,.slice A n c,.int .i64 sh,.int .i64 wo,.int .i64 qu,.int .i64 tr] 27)
 have H:Bk (World.alloc (w) (.cells #[.int .u32 a,.int .i64 p,.slice A n c,.int .i64 sh,.int .i64 wo,.int .i64 qu,.int .i64 tr] 27)) (World.heap (w)).size 27 (#[.int .u32 a,.int .i64 p,.slice A n c,.int .i64 sh,.int .i64 wo,.int .i64 qu,.int .i64 tr]):=Bk.new _ _ _
 replace H:=H.alloc (.cells #[.int .i64 leaf] 3)
 replace K:=Below.then_ K (below_alloc _ (.cells #[.int .i64 leaf] 3))
 have E:Bk (World.alloc ((w).alloc (.cells #[.int .u32 a,.int .i64 p,.slice A n c,.int .i64 sh,.int .i64 wo,.int .i64 qu,.int .i64 tr] 27)) (.cells #[.int .i64 leaf] 3)) (World.heap ((w).alloc (.cells #[.int .u32 a,.int .i64 p,.slice A n c,.int .i64 sh,.int .i64 wo,.int .i64 qu,.int .i64 tr] 27))).size 3 (#[.int .i64 leaf]):=Bk.new _ _ _
 replace H:=H.alloc (.cells #[.nilFunc,.nilFunc] 165)
 replace E:=E.alloc (.cells #[.nilFunc,.nilFunc] 165)
 replace K:=Below.then_ K (below_alloc _ (.cells #[.nilFunc,.nilFunc] 165))
 have R:Bk (World.alloc (((w).alloc (.cells #[.int .u32 a,.int .i64 p,.slice A n c,.int .i64 sh,.int .i64 wo,.int .i64 qu,.int .i64 tr] 27)).alloc (.cells #[.int .i64 leaf] 3)) (.cells #[.nilFunc,.nilFunc] 165)) (World.heap (((w).alloc (.cells #[.int .u32 a,.int .i64 p,.slice A n c,.int .i64 sh,.int .i64 wo,.int .i64 qu,.int .i64 tr] 27)).alloc (.cells #[.int .i64 leaf] 3))).size 165 (#[.nilFunc,.nilFunc]):=Bk.new _ _ _
 try simp only [World.size_alloc] at H E R
 generalize (((w).alloc (.cells #[.int .u32 a,.int .i64 p,.slice A n c,.int .i64 sh,.int .i64 wo,.int .i64 qu,.int .i64 tr] 27)).alloc (.cells #[.int .i64 leaf] 3)).alloc (.cells #[.nilFunc,.nilFunc] 165)=w1 at H E R K ⊢
 obtain ⟨gR,hgR⟩:∃ g,g=w.heap.size+1+1:=⟨_,rfl⟩
 rw [← hgR] at R ⊢
 obtain ⟨gE,hgE⟩:∃ g,g=w.heap.size+1:=⟨_,rfl⟩
 rw [← hgE] at E ⊢
 obtain ⟨gH,hgH⟩:∃ g,g=w.heap.size:=⟨_,rfl⟩
 rw [← hgH] at H ⊢
 have H_b:w.heap.size≤gH:=by omega
 have E_b:w.heap.size≤gE:=by omega
 have R_b:w.heap.size≤gR:=by omega
 have ne_H_E:gH≠gE:=by omega
 have ne_H_R:gH≠gR:=by omega
 have ne_E_R:gE≠gR:=by omega
 clear hgH hgE hgR
 have H_0:=H.at_ (v:=.int .u32 a) 0 rfl
 have H_1:=H.at_ (v:=.int .i64 p) 1 rfl
 have H_z:=H.lt
 go_wp2_with fail
 refine (many_yes ha hM).mono ?_
 rintro e w2 ⟨rfl,K'⟩
 clear H_0 H_1 H_z
 replace H:=H.below K'
 replace E:=E.below K'
 replace R:=R.below K'
 replace K:=Below.then_ K K'
 clear K'
 have H_lt:=H.lt
 have E_lt:=E.lt
 have R_lt:=R.lt
 have KS:=K.size
 go_upto_region 2 with (fail)
 replace H:=H.alloc (.cells #[.int .i64 M] 3)
 replace E:=E.alloc (.cells #[.int .i64 M] 3)
 replace R:=R.alloc (.cells #[.int .i64 M] 3)
 replace K:=Below.then_ K (below_alloc _ (.cells #[.int .i64 M] 3))
 have N:Bk (World.alloc (w2) (.cells #[.int .i64 M] 3)) (World.heap (w2)).size 3 (#[.int .i64 M]):=Bk.new _ _ _
 try simp only [World.size_alloc] at N
 generalize (w2).alloc (.cells #[.int .i64 M] 3)=w3 at H E R N K ⊢
 obtain ⟨gN,hgN⟩:∃ g,g=w2.heap.size:=⟨_,rfl⟩
 rw [← hgN] at N ⊢
 have N_b:w.heap.size≤gN:=by have:=KS;omega
 have ne_H_N:gH≠gN:=by have:=H_lt;omega
 have ne_E_N:gE≠gN:=by have:=E_lt;omega
 have ne_R_N:gR≠gN:=by have:=R_lt;omega
 clear hgN
 go_wp2_with (refine wpList_store_row rfl 165 (.tmp 4) (.tmp 11) rfl gR _ rfl (show _=Value.agg (clos gN gE) from rfl) _ _ R ar_sz rfl (ar_one _ _) ?_)
 replace H:=H.row_far ne_H_R (clos gN gE)
 replace E:=E.row_far ne_E_R (clos gN gE)
 replace N:=N.row_far (Ne.symm ne_R_N) (clos gN gE)
 replace R:=R.row (clos gN gE)
 replace K:=below_setRow K R_b (clos gN gE)
 generalize w3.setRow gR (clos gN gE)=w4 at H E R N K ⊢
 refine bodyPost_ret (v:=.agg (clos gN gE)) ?_ rfl ?_
 ·exact results_cell_row (fn:=Tryz.f132) Tryz.results132 _ _ gR _ _ (0,0) _ rfl R Tryz.underlying165 rfl ar_sz
 exact ⟨_,_,rfl,N,E,N_b,E_b,K⟩
end
end Go.Proofs.YtfhefofkhmkcnaaGreatDoor

/-
 What Find of package hint and the document's Find answer of a word and two places up to 64: the same.
-/
namespace Go.Proofs.YtfhefofkhmkcnaaGreatDoor
set_option maxRecDepth 100000
set_option maxRecDepth 100000
open Go.RowKit
set_option maxHeartbeats 8000000
/-- The word with the bits below f set. -/
def fl_ (X f:Nat):Nat:=X ||| msk f
theorem fl_bit (X f k:Nat):(fl_ X f).testBit k=(X.testBit k || decide (k<f)):=by
 unfold fl_ msk;rw [Nat.testBit_or,mask_bit]
theorem fl_lt {X f:Nat} (hX:X<18446744073709551616) (hf:f≤64):fl_ X f<18446744073709551616:=by
 have h:(18446744073709551616:Nat)=2 ^ 64:=by decide
 rw [h] at hX ⊢
 exact Nat.or_lt_two_pow hX (by have:=msk_lt hf;rw [h] at this;exact this)
theorem hfind_any (X f t:Nat) (hX:X<18446744073709551616) (hf:f≤64) (ht:t≤64) (w:World) :
  Calls Tryz.prog 141 #[.int .u64 X,.int .i64 f,.int .i64 t] w fun e w'=>e=.returned (.tuple #[.int .i64 (fi (fl_ X f) t:Nat),.bool (fb (fl_ X f) t)])∧w=w':=by
 by_cases h:t≤f
 ·have e:=fi_not (X:=fl_ X f) (n:=t) (fun k hk=>by rw [fl_bit];simp;omega)
  rw [e.1,e.2]
  clear e
  go_enter Tryz.func141,Tryz.ntmps141
  go_wp2
  go_ret2
  exact ⟨rfl,rfl⟩
 ·have hm:=msk_lt hf
  have e:Hid (Go.bits .or .u64 (X:Int) (msk f:Nat)=(fl_ X f:Nat)):=Lib.hid (u64_or_nat X (msk f) hX hm)
  have T:=fun w=>Lib.hid (first_any (fl_ X f) t (fl_lt hX hf) ht w)
  go_enter Tryz.func141,Tryz.ntmps141
  go_wp2_with (first
   | (go_at_call 28;refine (mask_any _ hf _).mono ?_;rintro e w' ⟨rfl,rfl⟩)
   | (rw [e.out];(with_reducible refine ((T _).out).mono ?_);rintro e w' ⟨rfl,rfl⟩)
   | ((with_reducible refine ((T _).out).mono ?_);rintro e w' ⟨rfl,rfl⟩))
  go_ret2
  exact ⟨rfl,rfl⟩
end Go.Proofs.YtfhefofkhmkcnaaGreatDoor

/-
 cells.Swap and the document's Set once more: what is answered lies in memory that is new,or,where nothing is swapped,is what was handed in.
-/
namespace Go.Proofs.YtfhefofkhmkcnaaGreatDoor
set_option maxRecDepth 100000
set_option maxRecDepth 100000
open Go.RowKit
set_option maxHeartbeats 8000000
set_option linter.unusedVariables false
def RetSN (n:Nat) (xs:List Nat) (w:World) (e:Ending) (w':World):Prop:=∃ g c,e=.returned (.tuple #[.slice (some ⟨g,0,none⟩) n c,.bool true])∧US w' (some ⟨g,0,none⟩) n c xs∧w.heap.size≤g∧Below w.heap.size w w'
def RetSM (n:Nat) (xs:List Nat) (w:World) (e:Ending) (w':World):Prop:=∃ g c,e=.returned (.slice (some ⟨g,0,none⟩) n c)∧US w' (some ⟨g,0,none⟩) n c xs∧w.heap.size≤g∧Below w.heap.size w w'
theorem US.keep {w w':World} {A:Option Addr} {n c:Nat} {xs:List Nat} (h:US w A n c xs) (hs:w.heap.size≤w'.heap.size) (hk:∀ b o,A=some ⟨b,o,none⟩→b<w.heap.size→w'.heap[b]? = w.heap[b]?):US w' A n c xs :=
 ⟨h.len,h.cap,h.most,h.nil_,h.fit,fun hn=>by
  obtain ⟨b,o,e,hlt,hc⟩:=h.cells hn
  exact ⟨b,o,e,Nat.lt_of_lt_of_le hlt hs,fun j hj=>(World.cell?_of_block (w:=w) (w':=w') (a:=⟨b,o+j,none⟩) (hk b o e hlt)).trans (hc j hj)⟩⟩
theorem US.far {w:World} {g o n c:Nat} {xs:List Nat} (h:US w (some ⟨g,o,none⟩) n c xs) {p:Addr} (hp:g≠p.block) (u:Value):US (w.setCell p u) (some ⟨g,o,none⟩) n c xs :=
 h.keep (by simp [World.setCell]) (fun b o' e _=>by cases e;exact Below.heap_setCell w p u g hp)
theorem US.row_far {w:World} {g o n c:Nat} {xs:List Nat} (h:US w (some ⟨g,o,none⟩) n c xs) {k:Nat} (hp:g≠k) (u:Array Value):US (w.setRow k u) (some ⟨g,o,none⟩) n c xs :=
 h.keep (by simp) (fun b o' e _=>by cases e;exact setRow_other w k g u hp)
theorem turn_swap_new {w:World} {A:Option Addr} {n c a v g k:Nat} {xs:List Nat} (h:US w A n c xs) (ha:a<n) (hn:n≤65536) (hv:w.cell? ⟨g,0,none⟩=some (.int .u64 (v:Nat))) (hk:w.cell? ⟨k,0,none⟩=some (.int .u64 (gt xs a:Nat))) (hvl:v<U64) :
  Calls Tryz.prog 151 #[.slice A n c,.int .i64 (a:Nat),.func (.func 152) #[] #[.pointer (some ⟨g,0,none⟩),.pointer (some ⟨k,0,none⟩)]] w (RetSN n (xs.set a v) w):=by
 obtain ⟨b,o,rfl,hb,hc⟩:=h.get ha
 obtain ⟨i0,hi,hz0,hz1,hz2⟩:=info_parts u64_info
 have hl:=Lib.hid h.len
 have hb8:i0.bytes*n≤281474976710656:=by rw [hz2];omega
 go_enter Tryz.func151,Tryz.ntmps151
 go_wp2_with (first
  | (go_at_call 140;refine (there_yes _ _ _ _ ha _).mono ?_;rintro e w' ⟨rfl,rfl⟩)
  | (go_at_call 152;refine (clo_swap_yes hv hk).mono ?_;rintro e wd ⟨rfl,m,hm⟩;have K0:Below w.heap.size w wd:=hm ▸ drewN_below w m;clear hm)
  | (at_make;refine wpList_make_full _ rfl (.tmp 29) (.tmp 29) _ rfl w.heap.size 41 i0 _ 1 Tryz.underlying34 hi hz0 hz1 .i64 .i64 _ _ n rfl rfl rfl rfl hb8 (by unfold maxLen;omega) K0.size ?_;intro w1 hown1 hg1;have B1:=Blk.of_made hown1;clear hown1;have K1:Below w.heap.size w w1:=K0.grown hg1 K0.size (by simp);clear hg1;obtain ⟨w2,hcp,B2,K2⟩:=run_copy_all (P:=Tryz.prog) Tryz.underlying34 u64_size h K1 (by omega) B1 K0.size K1 3;have c2:=B2.cell (i:=a) (by rw [hl.out];exact ha);have f2:=B2.frozen a))
 go_ret2
 refine ⟨_,_,rfl,?_,K0.size,?_⟩
 ·exact (B2.set_ a v).us (fit_set h.fit a hvl) (by simp [h.len]) hn
 ·exact K2.setCell K0.size _
theorem swap_new {w:World} {A:Option Addr} {n c a v:Nat} {xs:List Nat} (h:US w A n c xs) (ha:a<n) (hn:n≤65536) (hv:v<U64) :
  Calls Tryz.prog 135 #[.slice A n c,.int .i64 (a:Nat),.int .u64 (gt xs a:Nat),.int .u64 (v:Nat)] w (RetSN n (xs.set a v) w):=by
 have hb2:Below w.heap.size w ((w.alloc (.cells #[.int .u64 (gt xs a:Nat)] 41)).alloc (.cells #[.int .u64 (v:Nat)] 41)):=(below_alloc w _).alloc (by simp) _
 have T:=Lib.hid (turn_swap_new (g:=w.heap.size+1) (k:=w.heap.size) (h.below hb2) ha hn (by simp) (by simp) hv)
 go_enter Tryz.func135,Tryz.ntmps135
 go_wp2_with (go_at_call 151;refine (T.out).mono ?_;rintro e w' ⟨A1,c1,rfl,U1,G1,K1⟩)
 go_ret2
 exact ⟨_,_,rfl,U1,Nat.le_trans hb2.size G1,(RetS.ret U1 hb2 K1).2⟩
theorem swap_same {w:World} {A:Option Addr} {n c a v y:Nat} {xs:List Nat} (h:US w A n c xs) (ha:a<n) (hne:gt xs a≠y) :
  Calls Tryz.prog 135 #[.slice A n c,.int .i64 (a:Nat),.int .u64 (y:Nat),.int .u64 (v:Nat)] w fun e w'=>e=.returned (.tuple #[.slice A n c,.bool false])∧Below w.heap.size w w':=by
 have hb2:Below w.heap.size w ((w.alloc (.cells #[.int .u64 (y:Nat)] 41)).alloc (.cells #[.int .u64 (v:Nat)] 41)):=(below_alloc w _).alloc (by simp) _
 have T:=Lib.hid (turn_swap_no (v:=v) (g:=w.heap.size+1) (k:=w.heap.size) (h.below hb2) ha (by simp) (by simp) hne)
 go_enter Tryz.func135,Tryz.ntmps135
 go_wp2_with (go_at_call 151;refine (T.out).mono ?_;rintro e w' ⟨rfl,m,hm⟩;have K1:=hm ▸ drewN_below _ m;clear hm)
 go_ret2
 have K2:=hb2.trans (K1.mono hb2.size)
 exact ⟨rfl,K2⟩
theorem crset_new {w:World} {A:Option Addr} {n c v:Nat} {xs:List Nat} (h:US w A n c xs) (a:Int) (hn:n≤65536) (hv:v<U64) :
  Calls Tryz.prog 34 #[.slice A n c,.int .i64 a,.int .u64 (v:Nat)] w (RetSM n (stI xs a v) w):=by
 have hl:=Lib.hid h.len
 obtain ⟨i0,hi,hz0,hz1,hz2⟩:=info_parts u64_info
 have hown:(w.alloc (.cells #[] 41)).ownsRow w.heap.size 41 1 (.slice (some ⟨w.heap.size,0,none⟩) 0 0) 0 []:=World.ownsRow_lit w #[] 0 (Nat.le_refl _) (by unfold maxLen;omega) rfl
 have K0:=below_alloc w (.cells #[] 41)
 obtain ⟨g,c',w1,hap,O1,K1⟩:=run_append_us (P:=Tryz.prog) Tryz.underlying34 hi hz0 hz1 hz2 hown (h.below K0) hn (Nat.le_refl _) K0.size 34
 have K2:Below w.heap.size w w1:=K0.trans K1
 have HO:=Lib.hid O1
 have HA:=Lib.hid hap
 clear O1 K1 hown hi hz0 hz1 hz2 hap
 go_enter Tryz.func34,Tryz.ntmps34
 go_wp2_with (at_builtin;refine wpList_append_run rfl (.tmp 9) (.tmp 10) 34 rfl _ _ _ _ rfl rfl HA.out ?_)
 go_loopw [8] (fun i wr=>∃ k:Nat,k≤n∧i=.int .i64 k∧Hid (Own wr w.heap.size g n c' 41 (prt xs a v k))∧Below w.heap.size w wr) (fun i _=>n - (intOf i).toNat)
 case atStart=>exact ⟨0,Nat.zero_le _,rfl,Lib.hid (by rw [prt_0];exact HO.out),K2⟩
 case round =>
  obtain ⟨k,hk,rfl,HOr,Kr⟩:=hrel
  by_cases hlt:k<n
  ·by_cases he:(k:Int)=a
   ·subst he
    have e1:((k:Int) == (k:Int))=true:=by simp
    have c1:=HOr.out.cell hlt
    have f1:=HOr.out.frozen k
    go_wp2
    go_roundw
    case rel=>exact ⟨k+1,by omega,by go_num,Lib.hid (by rw [prt_hit];exact HOr.out.set_ k v),Kr.setCell HOr.out.ge _⟩
    case measure=>simp [intOf];omega
   ·have e1:((k:Int) == a)=false:=by simpa using he
    have HE:=Lib.hid he
    clear he
    go_wp2
    go_roundw
    case rel=>exact ⟨k+1,by omega,by go_num,Lib.hid (by rw [prt_miss xs v HE.out];exact HOr.out),Kr⟩
    case measure=>simp [intOf];omega
  ·go_wp2
   go_ret
   have e:k=n:=by omega
   subst e
   refine ⟨_,_,rfl,HOr.out.us ?_ |> (prt_end a v hl.out ▸ ·),HOr.out.ge,Kr⟩
   rw [prt_end a v hl.out];exact fit_stI h.fit a hv
end Go.Proofs.YtfhefofkhmkcnaaGreatDoor
