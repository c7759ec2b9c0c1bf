/-
  What the functions that these laws call answer, and what follows of it; conditions: those that each theorem names. In this file: GrantRun, ExactMath, ExactRun, AskMath, AskLib, AskNames, AskEach, AskCheck, AskRefs, ExactR0, ExactGx, ExactStep, DropMath, DropOwn, DropTold, DropRead, DropDrop, DropStep, ModelRefs3, SpecModel, SpecMath.
-/
import Derived.Test.YtfhefofkhmkcnaaGreatDoorPl14
/-
 A grant alone,and a grant between whatever others do: what is left to do,and what it comes to. No program in it.
-/
namespace Go.Proofs.YtfhefofkhmkcnaaGreatDoor
set_option maxRecDepth 100000
set_option maxRecDepth 100000
set_option maxRecDepth 100000
open Go.RowKit
set_option maxHeartbeats 8000000
set_option linter.unusedVariables false
section
variable {a M ns N:Nat} {zs:List Int} {ys ys0 ys2:List Nat} {s:Sc} {sn:List Nat}
/-- Cells with the same leaves make the same set. -/
theorem os_leaves {ys ys':List Nat} (h:∀ i,i<lv M→gt ys i=gt ys' i):os (uf zs ys) M=os (uf zs ys') M:=os_same fun i hi=>by
 unfold uf
 rw [h (i/32) (by unfold lv;omega)]
/-- All leaves are full. -/
theorem full_leaves (h:∀ i,i<lv M→fl (gt ys i)=true):fullB M zs (os (uf zs ys) M)=true:=fullB_iff.2 fun i hi=>by
 cases hh:hasB zs (i:Int) with
 | true=>exact .inl rfl
 | false =>
  refine .inr ?_
  rw [has_os hi hh]
  exact (fl_iff _).1 (h (i/32) (by unfold lv;omega)) (i%32) (by omega)
theorem not_full {o:Nat} (ho:o<M) (hh:hasB zs (o:Int)=false) (hb:(gt ys (o/32)).testBit (o%32)=false):fullB M zs (os (uf zs ys) M)=false:=by
 cases hf:fullB M zs (os (uf zs ys) M) with
 | false=>rfl
 | true =>
  rcases fullB_iff.1 hf o ho with h | h
  ·rw [hh] at h;cases h
  ·rw [has_os ho hh,hb] at h;cases h
/-- What a grant came to. -/
def Res (a M:Nat) (zs:List Int) (ys0 ys:List Nat) (s:Sc):Prop :=
 (s.err=0∧∃ o,o<M∧hasB zs (o:Int)=false∧(gt ys0 (o/32)).testBit (o%32)=false∧s.aad=((a+o)%4294967296:Nat)∧∀ i,i<lv M→gt ys i=gt (ys0.set (o/32) (clm (gt ys0 (o/32)) (o%32))) i) ∨
 (s.err=9∧(∀ i,i<lv M→gt ys i=gt ys0 i)∧∀ i,i<lv M→fl (gt ys0 i)=true)
theorem Res.same {ys':List Nat} {s':Sc} (h:Res a M zs ys0 ys s) (e1:s'.err=s.err) (e2:s'.aad=s.aad) (e3:∀ i,i<lv M→gt ys' i=gt ys i):Res a M zs ys0 ys' s':=by
 rcases h with ⟨h1,o,h2,h3,h4,h5,h6⟩ | ⟨h1,h2,h3⟩
 ·exact .inl ⟨e1.trans h1,o,h2,h3,h4,e2.trans h5,fun i hi=>(e3 i hi).trans (h6 i hi)⟩
 ·exact .inr ⟨e1.trans h1,fun i hi=>(e3 i hi).trans (h2 i hi),h3⟩
theorem ghd_of {X ns:Nat} (h:1≤ns):∃ hd:Nat,(X:Int)%(ns:Int)=(hd:Int)∧(X:Int).tmod (ns:Int)=(hd:Int)∧hd<ns :=
 ⟨X%ns,(Int.natCast_emod X ns).symm,by rw [Int.tmod_eq_emod_of_nonneg (by omega)];exact (Int.natCast_emod X ns).symm,Nat.mod_lt _ h⟩
/-- A grant alone, with so many steps left. -/
def GA (a M ns:Nat) (zs:List Int) (ys0 ys:List Nat) (s:Sc) (sn:List Nat) (eff left:Nat):Prop :=
 (eff=0∧ys=ys0∧(
  (∃ k t:Nat,s.phase=1∧s.sought=(k:Int)∧s.at_=(t:Int)∧k<ns∧t≤tv M∧(ns - k)*(3+tv M)+2*lv M+5≤left+t) ∨
  (∃ k:Nat,s.phase=2∧s.sought=(k:Int)∧k<ns∧(ns - k)*(3+tv M)+2*lv M+4≤left+tv M) ∨
  (s.phase=3∧gt ys s.leaf.toNat=s.word∧5≤left) ∨
  (s.phase=6∧(∀ j,j<sn.length→gt sn j=gt ys j)∧2*lv M+4≤left+sn.length) ∨
  (∃ t:Nat,s.phase=7∧s.at_=(t:Int)∧(∀ j,j<lv M→gt sn j=gt ys j)∧lv M≤left+t))) ∨
 (eff=1∧Res a M zs ys0 ys s∧(s.phase=0∨(s.phase=4∧(s.at_=0∧4≤left∨s.at_=1∧2≤left))∨(s.phase=5∧(s.at_=0∧3≤left∨s.at_=1∧1≤left))))
theorem ns_mul {k T:Nat} (h:k<ns):(ns - k)*T=(ns - (k+1))*T+T:=by
 rw [show ns - k=ns - (k+1)+1 by omega,Nat.add_mul,Nat.one_mul]
theorem gt_app {x:Nat} {j:Nat}:gt (sn ++ [x]) j=if j<sn.length then gt sn j else if j=sn.length then x else 0:=by
 unfold gt
 rw [List.getD_eq_getElem?_getD,List.getD_eq_getElem?_getD,List.getElem?_append]
 by_cases h:j<sn.length
 ·rw [if_pos h,if_pos h]
 ·rw [if_neg h,if_neg h]
  by_cases e:j=sn.length
  ·subst e;simp
  ·rw [if_neg e,List.getElem?_eq_none (by simp;omega)];rfl
theorem gB_mark (h:s.phase=4∨s.phase=5):gB M ys s sn=false:=by unfold gB;rw [if_neg (by omega),if_neg (by omega)]
theorem gC_leaf (hM:M≤65536) (hG:GI M ns zs N s sn) (h:s.phase=4∨s.phase=5) {i:Nat} (hi:i<lv M):gt (gC M ys s) i=gt ys i:=by
 unfold gC
 rw [if_neg (by omega),if_pos h]
 rcases stC_sum (M:=M) (ys:=ys) (s:=s) (fun j e hj=>(lv_top hM hj).1) with e | ⟨j,W,hj,e,_⟩
 ·rw [e]
 ·rw [e,gt_sum hj hi]
theorem gC_same (h:s.phase≠3∧s.phase≠4∧s.phase≠5):gC M ys s=ys:=by unfold gC;rw [if_neg h.1,if_neg (by omega)]
/-- The words of an effect. -/
theorem claim_eff (hG:GI M ns zs N s sn) (hp:s.phase=3) (hx:gt ys s.leaf.toNat=s.word) (er:s.err=0):∃ o,o<M∧hasB zs (o:Int)=false∧(gt ys (o/32)).testBit (o%32)=false∧(adr a s.leaf.toNat s.bit.toNat:Int)=((a+o)%4294967296:Nat)∧gC M ys s=ys.set (o/32) (clm (gt ys (o/32)) (o%32)):=by
 cases hG.ph with
 | claim i b q1 q2 q3 q4 q5 q6 q7 =>
  have e:s.leaf.toNat=i:=by rw [q2,Int.toNat_natCast]
  have e2:s.bit.toNat=b:=by rw [q3,Int.toNat_natCast]
  obtain ⟨f1,f2⟩:=nf_no q6
  have d1:(32*i+b)/32=i:=by omega
  have d2:(32*i+b)%32=b:=by omega
  rw [e] at hx
  refine ⟨32*i+b,f1,f2,?_,?_,?_⟩
  ·rw [d1,d2,hx];exact q7
  ·rw [e,e2];unfold adr;rfl
  ·unfold gC
   rw [if_pos hp,d1,d2]
   unfold claimC
   rw [e,e2,if_pos hx,hx]
 | _=>omega
theorem ga_step (hM:M≤65536) (hM0:0<M) (hns:1≤ns) {eff left:Nat} (hG:GI M ns zs N s sn) (hY:YI M zs ys) (hA:GA a M ns zs ys0 ys s sn eff left) (hp0:s.phase≠0) :
  1≤left∧GA a M ns zs ys0 (gC M ys s) (gS a M ns ys s sn) (gN M ys s sn) (eff+if gB M ys s sn=true then 1 else 0) (left - 1):=by
 have hL:0<lv M:=by unfold lv;omega
 have er0:=hG.er hp0
 rcases hA with ⟨rfl,rfl,h⟩ | ⟨rfl,hR,h⟩
 ·rcases h with ⟨k,t,q1,q2,q3,q4,q5,q6⟩ | ⟨k,q1,q2,q3,q4⟩ | ⟨q1,q2,q3⟩ | ⟨q1,q2,q3⟩ | ⟨t,q1,q2,q3,q4⟩
  ·-- seeking
   have hm:=ns_mul (T:=3+tv M) q4
   have e:s.sought.toNat=k:=by rw [q2,Int.toNat_natCast]
   have eC:gC M ys s=ys:=gC_same (by omega)
   have eB:gB M ys s sn=false:=by unfold gB;rw [if_neg (by omega),if_neg (by omega)]
   have eS:gS a M ns ys s sn=skS (ns:Int) M ys (sa M ns s.shard.toNat k) (sb M ns s.shard.toNat k) s:=by unfold gS;rw [if_pos q1,e]
   have eN:gN M ys s sn=sn:=by unfold gN;rw [if_neg (by omega),if_neg (by omega)]
   rw [eC,eB,eS,eN]
   refine ⟨by omega,.inl ⟨rfl,rfl,?_⟩⟩
   rcases seek_mv (M:=M) (ys:=ys) (hd:=s.shard.toNat) hns q2 q3 q4 hG.wd (gt_lt hY.fit _) with ⟨u,x,g1,g2,g3,g4⟩ | ⟨i,g1,g2⟩ | ⟨g1,g2⟩ | ⟨g1,g2⟩
   ·rw [g4];exact .inl ⟨k,u,q1,q2,rfl,q4,g2,by omega⟩
   ·rw [g2];exact .inr (.inl ⟨k,rfl,q2,q4,by omega⟩)
   ·rw [g2];exact .inl ⟨k+1,0,rfl,by show s.sought+1=_;omega,rfl,g1,Nat.zero_le _,by omega⟩
   ·rw [g2]
    have es:sn=[]:=by cases hG.ph <;> first | rfl | omega
    subst es
    exact .inr (.inr (.inr (.inl ⟨rfl,fun j hj=>absurd hj (by simp),by simp;omega⟩)))
  ·-- looking
   have hm:=ns_mul (T:=3+tv M) q3
   have eC:gC M ys s=ys:=gC_same (by omega)
   have eB:gB M ys s sn=false:=by unfold gB;rw [if_neg (by omega),if_neg (by omega)]
   have eS:gS a M ns ys s sn=lookS (ns:Int) (gt ys s.leaf.toNat) s:=by unfold gS;rw [if_neg (by omega),if_pos q1]
   have eN:gN M ys s sn=sn:=by unfold gN;rw [if_neg (by omega),if_neg (by omega)]
   rw [eC,eB,eS,eN]
   refine ⟨by omega,.inl ⟨rfl,rfl,?_⟩⟩
   unfold lookS
   split
   ·exact .inr (.inr (.inl ⟨rfl,rfl,by omega⟩))
   ·split
    ·exact .inl ⟨k+1,0,rfl,by show s.sought+1=_;omega,rfl,by omega,Nat.zero_le _,by omega⟩
    ·have es:sn=[]:=by cases hG.ph <;> first | rfl | omega
     subst es
     exact .inr (.inr (.inr (.inl ⟨rfl,fun j hj=>absurd hj (by simp),by simp;omega⟩)))
  ·-- claiming
   obtain ⟨o,c1,c2,c3,c4,c5⟩:=claim_eff (a:=a) hG q1 q2 er0
   have eB:gB M ys s sn=true:=by unfold gB;rw [if_pos q1,decide_eq_true q2]
   have eS:gS a M ns ys s sn=claimS a 0 [] (gt ys s.leaf.toNat) s:=by unfold gS;rw [if_neg (by omega),if_neg (by omega),if_pos q1]
   rw [eB,eS,c5]
   refine ⟨by omega,.inr ⟨rfl,?_⟩⟩
   rcases claim_mv (a:=a) hG.kd (gt ys s.leaf.toNat) with ⟨g0,g | g⟩ | ⟨g0,_,_⟩
   ·rw [g];exact ⟨.inl ⟨er0,o,c1,c2,c3,c4,fun i hi=>rfl⟩,.inr (.inl ⟨rfl,.inl ⟨rfl,by omega⟩⟩)⟩
   ·rw [g];exact ⟨.inl ⟨er0,o,c1,c2,c3,c4,fun i hi=>rfl⟩,.inl rfl⟩
   ·exact absurd q2 g0
  ·-- the first collect
   have eC:gC M ys s=ys:=gC_same (by omega)
   have eB:gB M ys s sn=false:=by unfold gB;rw [if_neg (by omega),if_neg (by omega)]
   rw [eC,eB]
   have hph:=hG.ph
   cases hph with
   | first sn p1 p2 p3 p4 =>
    have e:s.at_.toNat=sn.length:=by rw [p2,Int.toNat_natCast]
    have eS:gS a M ns ys s sn=swF (lv M) (gt ys sn.length) s:=by unfold gS;rw [if_neg (by omega),if_neg (by omega),if_neg (by omega),if_neg (by omega),if_pos q1,e]
    have eN:gN M ys s sn=if fb (gt ys sn.length) 32=true then [] else sn ++ [gt ys sn.length]:=by unfold gN;rw [if_pos q1,e]
    rw [eS,eN]
    refine ⟨by omega,.inl ⟨rfl,rfl,?_⟩⟩
    have happ:∀ j,j<sn.length+1→gt (sn ++ [gt ys sn.length]) j=gt ys j:=fun j hj=>by
     rw [gt_app]
     split
     ·rename_i h1;exact q2 j h1
     ·rw [if_pos (by omega),show j=sn.length by omega]
    unfold swF
    split
    ·exact .inr (.inr (.inl ⟨rfl,by show gt ys s.at_.toNat=gt ys sn.length;rw [e],by omega⟩))
    ·split
     ·exact .inr (.inr (.inr (.inl ⟨q1,fun j hj=>happ j (by simpa using hj),by simp;omega⟩)))
     ·exact .inr (.inr (.inr (.inr ⟨0,rfl,rfl,fun j hj=>happ j (by omega),by omega⟩)))
   | _=>omega
  ·-- the second one
   have eC:gC M ys s=ys:=gC_same (by omega)
   rw [eC]
   have hph:=hG.ph
   cases hph with
   | again sn t2 p1 p2 p3 p4 p5 =>
    have et:t2=t:=by omega
    subst et
    have e:s.at_.toNat=t2:=by rw [p2,Int.toNat_natCast]
    have hx:gt ys t2=gt sn t2:=(q3 t2 p3).symm
    have eS:gS a M ns ys s sn=swA (lv M) (gt ys t2) (gt sn t2) s:=by unfold gS;rw [if_neg (by omega),if_neg (by omega),if_neg (by omega),if_neg (by omega),if_neg (by omega),if_pos q1,e]
    have eN:gN M ys s sn=if s.at_+1<(lv M:Int) then sn else []:=by unfold gN;rw [if_neg (by omega),if_pos q1,e,if_pos hx]
    have eB:gB M ys s sn=decide (¬ s.at_+1<(lv M:Int)):=by unfold gB;rw [if_neg (by omega),if_pos q1,e];unfold swAB;rw [decide_eq_true hx,Bool.true_and]
    rw [eS,eN,eB]
    unfold swA
    rw [if_pos hx]
    by_cases hlt:s.at_+1<(lv M:Int)
    ·rw [if_pos hlt,if_pos hlt,decide_eq_false (by omega)]
     exact ⟨by omega,.inl ⟨rfl,rfl,.inr (.inr (.inr (.inr ⟨t2+1,q1,by show s.at_+1=_;omega,q3,by omega⟩)))⟩⟩
    ·rw [if_neg hlt,if_neg hlt,decide_eq_true hlt]
     refine ⟨by omega,.inr ⟨rfl,.inr ⟨rfl,fun i hi=>rfl,fun i hi=>?_⟩,.inl rfl⟩⟩
     rw [← q3 i hi]
     exact (p5 _ (gt_mem (by omega))).2
   | _=>omega
 ·-- marking
  have h45:s.phase=4∨s.phase=5:=by omega
  have eB:=gB_mark (M:=M) (ys:=ys) (sn:=sn) h45
  have eN:gN M ys s sn=sn:=by unfold gN;rw [if_neg (by omega),if_neg (by omega)]
  have eS:gS a M ns ys s sn=stO a M 0 [] ys s:=by unfold gS;rw [if_neg (by omega),if_neg (by omega),if_neg (by omega),if_pos h45]
  have hC:∀ i,i<lv M→gt (gC M ys s) i=gt ys i:=fun i hi=>gC_leaf hM hG h45 hi
  rw [eB,eN,eS]
  have hl:bt s<64:=by
   cases hG.ph with
   | mark i q1 q2 q3 q4 =>
    have:=lv_top hM q3
    have hlf:s.leaf.toNat=i:=by rw [q2,Int.toNat_natCast]
    unfold bt;rw [hlf];split <;> omega
   | _=>omega
  refine ⟨by omega,.inr ⟨rfl,?_⟩⟩
  rcases mark_mv (a:=a) (M:=M) (ys:=ys) hG.kd h45 with ⟨x,g1,g2,g3⟩ | ⟨x,g1,g2,g3⟩ | ⟨x,g⟩ | g | g | g
  ·rw [g2]
   refine ⟨hR.same rfl rfl hC,.inr (.inr ⟨rfl,?_⟩)⟩
   show s.at_=0∧_∨s.at_=1∧_
   omega
  ·rw [g3]
   refine ⟨hR.same rfl rfl hC,.inr (.inl ⟨rfl,.inr ⟨rfl,by omega⟩⟩)⟩
  ·rw [g];exact ⟨hR.same rfl rfl hC,.inl rfl⟩
  ·exact absurd hG.wd g
  ·exact absurd (gt_lt hY.fit _) g
  ·exact absurd hl g
theorem ga_done {eff left:Nat} (hA:GA a M ns zs ys0 ys s sn eff left) (h:s.phase=0):eff=1∧Res a M zs ys0 ys s:=by
 rcases hA with ⟨rfl,rfl,h⟩ | ⟨rfl,hR,h⟩
 ·omega
 ·exact ⟨rfl,hR⟩
/-- What it came to, as sets. -/
theorem Res.sets (hY0:YI M zs ys0) (h:Res a M zs ys0 ys s):(s.err=0∧fullB M zs (os (uf zs ys0) M)=false∧∃ o,o<M∧hasB zs (o:Int)=false∧hasB (os (uf zs ys0) M) (o:Int)=false∧s.aad=((a+o)%4294967296:Nat)∧os (uf zs ys) M=ins (os (uf zs ys0) M) (o:Int)) ∨
  (s.err=9∧fullB M zs (os (uf zs ys0) M)=true∧os (uf zs ys) M=os (uf zs ys0) M):=by
 rcases h with ⟨h1,o,h2,h3,h4,h5,h6⟩ | ⟨h1,h2,h3⟩
 ·have ho:o/32<ys0.length:=by rw [hY0.len];unfold lv;omega
  refine .inl ⟨h1,not_full h2 h3 h4,o,h2,h3,by rw [has_os h2 h3];exact h4,h5,?_⟩
  rw [os_leaves h6,os_claim ho h2 h3]
 ·exact .inr ⟨h1,full_leaves h3,os_leaves h2⟩
/-- A word, changed so often at most. -/
def Chd (n x y:Nat):Prop:=∃ d,1≤d∧d≤n∧cg y=(cg x+d)%4294967296
def Snc (n x y:Nat):Prop:=y=x∨Chd n x y
theorem Chd.more {n n' x y:Nat} (h:Chd n x y) (hn:n≤n'):Chd n' x y:=by
 obtain ⟨d,h1,h2,h3⟩:=h
 exact ⟨d,h1,by omega,h3⟩
theorem Chd.one {n x y z:Nat} (h:Chd n x y) (hz:cg z=(cg y+1)%4294967296):Chd (n+1) x z:=by
 obtain ⟨d,h1,h2,h3⟩:=h
 exact ⟨d+1,by omega,by omega,by rw [hz,h3];omega⟩
theorem Chd.ne {n x y:Nat} (hn:n<4294967296) (hx:x<U64) (h:Chd n x y):y≠x:=by
 obtain ⟨d,h1,h2,h3⟩:=h
 intro e
 subst e
 have:=cg_lt hx
 omega
theorem Snc.one {n x y z:Nat} (h:Snc n x y) (hz:z=y∨cg z=(cg y+1)%4294967296):Snc (n+1) x z:=by
 rcases h with rfl | h
 ·rcases hz with rfl | hz
  ·exact .inl rfl
  ·exact .inr ⟨1,Nat.le_refl _,by omega,hz⟩
 ·rcases hz with rfl | hz
  ·exact .inr (h.more (by omega))
  ·exact .inr (h.one hz)
/-- What others do changes a leaf once at most, and leaves what can't be free. -/
theorem dist_leaf (hM:M≤65536) (hY:YI M zs ys) (hD:DistR M zs ys ys2):YI M zs ys2∧∀ i,i<lv M→gt ys2 i=gt ys i∨cg (gt ys2 i)=(cg (gt ys i)+1)%4294967296:=by
 have bits:∀ o b,o<M→hasB zs (o:Int)=false→nf M zs (o/32) b=true→b≠o%32:=fun o b ho hh hn e=>by
  subst e
  unfold nf at hn
  rw [show 32*(o/32)+o%32=o by omega,hh,Bool.or_false,decide_eq_true_eq] at hn
  omega
 rcases hD with ⟨o,h1,h2,h3,rfl⟩ | ⟨o,h1,h2,h3,rfl⟩ | ⟨i,W,h1,h2,rfl⟩ | rfl
 ·have hi:o/32<lv M:=by unfold lv;omega
  refine ⟨hY.leaf hi (drp_lt _ _) fun b hb hn=>?_,fun i hi'=>?_⟩
  ·rw [drp_bit (gt_lt hY.fit _) (Nat.mod_lt _ (by omega)) hb,hY.top _ b hi hb hn]
   have:=bits o b h1 h2 hn
   simp;omega
  ·rw [gt_set (by have:=hY.len;omega)]
   split
   ·rename_i e;subst e;exact .inr (cg_drp (gt_lt hY.fit _) (Nat.mod_lt _ (by omega)))
   ·exact .inl rfl
 ·have hi:o/32<lv M:=by unfold lv;omega
  refine ⟨hY.leaf hi (clm_lt _ _) fun b hb hn=>?_,fun i hi'=>?_⟩
  ·rw [clm_bit _ _ hb,hY.top _ b hi hb hn];rfl
  ·rw [gt_set (by have:=hY.len;omega)]
   split
   ·rename_i e;subst e;exact .inr (cg_clm _ (Nat.mod_lt _ (by omega)))
   ·exact .inl rfl
 ·exact ⟨hY.sum h1 h2,fun j hj=>.inl (gt_sum h1 hj)⟩
 ·exact ⟨hY,fun j hj=>.inl rfl⟩
/-- A grant between what others do: so many doings at most; was all used at some time; did it take effect. -/
def GO (M N:Nat) (ys:List Nat) (s:Sc) (sn:List Nat) (full:Bool) (eff:Nat):Prop :=
 (eff=0∧(s.phase=1∨s.phase=2∨s.phase=3)) ∨
 (eff=0∧s.phase=6∧∀ j,j<sn.length→Snc N (gt sn j) (gt ys j)) ∨
 (eff=0∧∃ t:Nat,s.phase=7∧s.at_=(t:Int)∧(full=true∨∃ j,t≤j∧j<lv M∧Chd N (gt sn j) (gt ys j))) ∨
 (eff=1∧(s.phase=4∨s.phase=5∨s.phase=0))
/-- What an effect tells. -/
def Eff (a M:Nat) (zs:List Int) (ys ys':List Nat) (s':Sc) (full:Bool):Prop :=
 (s'.err=0∧∃ o,o<M∧hasB zs (o:Int)=false∧hasB (os (uf zs ys) M) (o:Int)=false∧s'.aad=((a+o)%4294967296:Nat)∧os (uf zs ys') M=ins (os (uf zs ys) M) (o:Int)) ∨
 (s'.err=9∧full=true)
theorem go_step (hM:M≤65536) (hM0:0<M) (hns:1≤ns) {full full2:Bool} {eff:Nat} (hN:N<4294967296) (hG:GI M ns zs N s sn) (hY:YI M zs ys) (hO:GO M N ys s sn full eff) (hp0:s.phase≠0) (hf:full2=(full || fullB M zs (os (uf zs ys) M))) :
  (gB M ys s sn=false→os (uf zs (gC M ys s)) M=os (uf zs ys) M)∧(gB M ys s sn=true→eff=0∧Eff a M zs ys (gC M ys s) (gS a M ns ys s sn) full2) ∧
  GO M N (gC M ys s) (gS a M ns ys s sn) (gN M ys s sn) full2 (eff+if gB M ys s sn=true then 1 else 0):=by
 have er0:=hG.er hp0
 have hL:0<lv M:=by unfold lv;omega
 have hph:=hG.ph
 cases hph with
 | done q1=>omega
 | seek k t q1 q2 q3 q4 q5 =>
  have he:eff=0:=by rcases hO with h | h | h | h <;> omega
  have e:s.sought.toNat=k:=by rw [q2,Int.toNat_natCast]
  have eC:gC M ys s=ys:=gC_same (by omega)
  have eB:gB M ys s []=false:=by unfold gB;rw [if_neg (by omega),if_neg (by omega)]
  have eS:gS a M ns ys s []=skS (ns:Int) M ys (sa M ns s.shard.toNat k) (sb M ns s.shard.toNat k) s:=by unfold gS;rw [if_pos q1,e]
  have eN:gN M ys s []=[]:=by unfold gN;rw [if_neg (by omega),if_neg (by omega)]
  rw [eC,eB,eS,eN,he]
  refine ⟨fun _=>rfl,(fun h=>by cases h),?_⟩
  rcases seek_mv (M:=M) (ys:=ys) (hd:=s.shard.toNat) hns q2 q3 q4 hG.wd (gt_lt hY.fit _) with ⟨u,x,g1,g2,g3,g4⟩ | ⟨i,g1,g2⟩ | ⟨g1,g2⟩ | ⟨g1,g2⟩
  ·rw [g4];exact .inl ⟨rfl,.inl q1⟩
  ·rw [g2];exact .inl ⟨rfl,.inr (.inl rfl)⟩
  ·rw [g2];exact .inl ⟨rfl,.inl rfl⟩
  ·rw [g2];exact .inr (.inl ⟨rfl,rfl,fun j hj=>absurd hj (by simp)⟩)
 | look i q1 q2 q3 =>
  have he:eff=0:=by rcases hO with h | h | h | h <;> omega
  have eC:gC M ys s=ys:=gC_same (by omega)
  have eB:gB M ys s []=false:=by unfold gB;rw [if_neg (by omega),if_neg (by omega)]
  have eS:gS a M ns ys s []=lookS (ns:Int) (gt ys s.leaf.toNat) s:=by unfold gS;rw [if_neg (by omega),if_pos q1]
  have eN:gN M ys s []=[]:=by unfold gN;rw [if_neg (by omega),if_neg (by omega)]
  rw [eC,eB,eS,eN,he]
  refine ⟨fun _=>rfl,(fun h=>by cases h),?_⟩
  unfold lookS
  split
  ·exact .inl ⟨rfl,.inr (.inr rfl)⟩
  ·split
   ·exact .inl ⟨rfl,.inl rfl⟩
   ·exact .inr (.inl ⟨rfl,rfl,fun j hj=>absurd hj (by simp)⟩)
 | claim i b q1 q2 q3 q4 q5 q6 q7 =>
  have he:eff=0:=by rcases hO with h | h | h | h <;> omega
  have eS:gS a M ns ys s []=claimS a 0 [] (gt ys s.leaf.toNat) s:=by unfold gS;rw [if_neg (by omega),if_neg (by omega),if_pos q1]
  have eN:gN M ys s []=[]:=by unfold gN;rw [if_neg (by omega),if_neg (by omega)]
  have eB:gB M ys s []=decide (gt ys s.leaf.toNat=s.word):=by unfold gB;rw [if_pos q1]
  rw [eB,eS,eN,he]
  by_cases hx:gt ys s.leaf.toNat=s.word
  ·rw [decide_eq_true hx]
   obtain ⟨o,c1,c2,c3,c4,c5⟩:=claim_eff (a:=a) hG q1 hx er0
   have ho:o/32<ys.length:=by rw [hY.len];unfold lv;omega
   refine ⟨(fun h=>by cases h),fun _=>⟨rfl,.inl ?_⟩,?_⟩
   ·rw [c5]
    rcases claim_mv (a:=a) hG.kd (gt ys s.leaf.toNat) with ⟨g0,g | g⟩ | ⟨g0,_,_⟩
    ·rw [g];exact ⟨er0,o,c1,c2,by rw [has_os c1 c2];exact c3,c4,os_claim ho c1 c2⟩
    ·rw [g];exact ⟨er0,o,c1,c2,by rw [has_os c1 c2];exact c3,c4,os_claim ho c1 c2⟩
    ·exact absurd hx g0
   ·rcases claim_mv (a:=a) hG.kd (gt ys s.leaf.toNat) with ⟨g0,g | g⟩ | ⟨g0,_,_⟩
    ·rw [g];exact .inr (.inr (.inr ⟨rfl,.inl rfl⟩))
    ·rw [g];exact .inr (.inr (.inr ⟨rfl,.inr (.inr rfl)⟩))
    ·exact absurd hx g0
  ·rw [decide_eq_false hx]
   have eC:gC M ys s=ys:=by unfold gC;rw [if_pos q1];unfold claimC;rw [if_neg hx]
   rw [eC]
   refine ⟨fun _=>rfl,(fun h=>by cases h),?_⟩
   rcases claim_mv (a:=a) hG.kd (gt ys s.leaf.toNat) with ⟨g0,_⟩ | ⟨g0,g,gp⟩
   ·exact absurd g0 hx
   ·rw [g];exact .inl ⟨rfl,.inr (.inl gp)⟩
 | mark i q1 q2 q3 q4 =>
  have he:eff=1:=by rcases hO with h | h | ⟨_,t,h,_⟩ | h <;> omega
  have eB:=gB_mark (M:=M) (ys:=ys) (sn:=[]) q1
  have eN:gN M ys s []=[]:=by unfold gN;rw [if_neg (by omega),if_neg (by omega)]
  have eS:gS a M ns ys s []=stO a M 0 [] ys s:=by unfold gS;rw [if_neg (by omega),if_neg (by omega),if_neg (by omega),if_pos q1]
  rw [eB,eN,eS,he]
  refine ⟨fun _=>os_leaves fun i hi=>gC_leaf hM hG q1 hi,(fun h=>by cases h),?_⟩
  have hl:bt s<64:=by
   have:=lv_top hM q3
   have hlf:s.leaf.toNat=i:=by rw [q2,Int.toNat_natCast]
   unfold bt;rw [hlf];split <;> omega
  rcases mark_mv (a:=a) (M:=M) (ys:=ys) hG.kd q1 with ⟨x,g1,g2,g3⟩ | ⟨x,g1,g2,g3⟩ | ⟨x,g⟩ | g | g | g
  ·rw [g2];exact .inr (.inr (.inr ⟨rfl,.inr (.inl rfl)⟩))
  ·rw [g3];exact .inr (.inr (.inr ⟨rfl,.inl rfl⟩))
  ·rw [g];exact .inr (.inr (.inr ⟨rfl,.inr (.inr rfl)⟩))
  ·exact absurd hG.wd g
  ·exact absurd (gt_lt hY.fit _) g
  ·exact absurd hl g
 | first sn q1 q2 q3 q4 =>
  have hO2:eff=0∧∀ j,j<sn.length→Snc N (gt sn j) (gt ys j):=by
   rcases hO with h | ⟨h1,_,h3⟩ | ⟨_,t,h,_⟩ | h
   ·omega
   ·exact ⟨h1,h3⟩
   ·omega
   ·omega
  obtain ⟨he,hs⟩:=hO2
  have e:s.at_.toNat=sn.length:=by rw [q2,Int.toNat_natCast]
  have eC:gC M ys s=ys:=gC_same (by omega)
  have eB:gB M ys s sn=false:=by unfold gB;rw [if_neg (by omega),if_neg (by omega)]
  have eS:gS a M ns ys s sn=swF (lv M) (gt ys sn.length) s:=by unfold gS;rw [if_neg (by omega),if_neg (by omega),if_neg (by omega),if_neg (by omega),if_pos q1,e]
  have eN:gN M ys s sn=if fb (gt ys sn.length) 32=true then [] else sn ++ [gt ys sn.length]:=by unfold gN;rw [if_pos q1,e]
  rw [eC,eB,eS,eN,he]
  refine ⟨fun _=>rfl,(fun h=>by cases h),?_⟩
  have happ:∀ j,j<sn.length+1→Snc N (gt (sn ++ [gt ys sn.length]) j) (gt ys j):=fun j hj=>by
   rw [gt_app]
   split
   ·rename_i h1;exact hs j h1
   ·rw [if_pos (by omega),show j=sn.length by omega];exact .inl rfl
  unfold swF
  cases hb:fb (gt ys sn.length) 32 with
  | true=>rw [if_pos rfl];exact .inl ⟨rfl,.inr (.inr rfl)⟩
  | false =>
   rw [if_neg Bool.false_ne_true,if_neg Bool.false_ne_true]
   split
   ·exact .inr (.inl ⟨rfl,q1,fun j hj=>happ j (by simpa using hj)⟩)
   ·refine .inr (.inr (.inl ⟨rfl,0,rfl,rfl,?_⟩))
    by_cases hall:∀ j,j<lv M→gt ys j=gt (sn ++ [gt ys sn.length]) j
    ·refine .inl ?_
     rw [hf,full_leaves fun i hi=>?_,Bool.or_true]
     rw [hall i hi]
     have hF:=fls_snoc q4 (gt_lt hY.fit _) hb
     exact (hF _ (gt_mem (by simp;omega))).2
    ·refine .inr ?_
     have:∃ j,j<lv M∧¬ gt ys j=gt (sn ++ [gt ys sn.length]) j:=by
      by_cases h:∃ j,j<lv M∧¬ gt ys j=gt (sn ++ [gt ys sn.length]) j
      ·exact h
      ·exact absurd (fun j hj=>Decidable.byContradiction fun hne=>h ⟨j,hj,hne⟩) hall
     obtain ⟨j,hj,hne⟩:=this
     exact ⟨j,Nat.zero_le _,hj,(happ j (by omega)).resolve_left hne⟩
 | again sn t q1 q2 q3 q4 q5 =>
  have hO2:eff=0∧(full=true∨∃ j,t≤j∧j<lv M∧Chd N (gt sn j) (gt ys j)):=by
   rcases hO with h | h | ⟨h1,t2,h2,h3,h4⟩ | h
   ·omega
   ·omega
   ·obtain rfl:t2=t:=by omega
    exact ⟨h1,h4⟩
   ·omega
  obtain ⟨he,hs⟩:=hO2
  have hs2:full2=true∨∃ j,t≤j∧j<lv M∧Chd N (gt sn j) (gt ys j):=hs.elim (fun h=>.inl (by rw [hf,h];rfl)) .inr
  have e:s.at_.toNat=t:=by rw [q2,Int.toNat_natCast]
  have eC:gC M ys s=ys:=gC_same (by omega)
  have eS:gS a M ns ys s sn=swA (lv M) (gt ys t) (gt sn t) s:=by unfold gS;rw [if_neg (by omega),if_neg (by omega),if_neg (by omega),if_neg (by omega),if_neg (by omega),if_pos q1,e]
  have eN:gN M ys s sn=if gt ys t=gt sn t then (if s.at_+1<(lv M:Int) then sn else []) else []:=by unfold gN;rw [if_neg (by omega),if_pos q1,e]
  have eB:gB M ys s sn=swAB (lv M) (gt ys t) (gt sn t) s:=by unfold gB;rw [if_neg (by omega),if_pos q1,e]
  rw [eC,eS,eN,eB,he]
  refine ⟨fun _=>rfl,?_⟩
  unfold swA swAB
  by_cases hx:gt ys t=gt sn t
  ·rw [if_pos hx,if_pos hx,decide_eq_true hx,Bool.true_and]
   have hsn:gt sn t<U64:=(q5 _ (gt_mem (by omega))).1
   have hs3:full2=true∨∃ j,t+1≤j∧j<lv M∧Chd N (gt sn j) (gt ys j):=hs2.elim .inl fun ⟨j,j1,j2,j3⟩=>.inr ⟨j,by
    rcases Nat.lt_or_ge t j with h | h
    ·exact h
    ·have ej:j=t:=by omega
     subst ej
     exact absurd hx (j3.ne hN hsn),j2,j3⟩
   by_cases hlt:s.at_+1<(lv M:Int)
   ·rw [if_pos hlt,if_pos hlt,decide_eq_false (by omega)]
    exact ⟨(fun h=>by cases h),.inr (.inr (.inl ⟨rfl,t+1,q1,by show s.at_+1=_;omega,hs3⟩))⟩
   ·rw [if_neg hlt,if_neg hlt,decide_eq_true hlt]
    have hfull:full2=true:=hs3.resolve_right fun ⟨j,j1,j2,_⟩=>by omega
    exact ⟨fun _=>⟨rfl,.inr ⟨rfl,hfull⟩⟩,.inr (.inr (.inr ⟨rfl,.inr (.inr rfl)⟩))⟩
  ·rw [if_neg hx,if_neg hx,decide_eq_false hx,Bool.false_and]
   exact ⟨(fun h=>by cases h),.inr (.inl ⟨rfl,rfl,fun j hj=>absurd hj (by simp)⟩)⟩
/-- The first cells. -/
theorem yi_start:YI M zs (cl (nw M zs) (lv M) (tv M) (lv M))∧os (uf zs (cl (nw M zs) (lv M) (tv M) (lv M))) M=[]:=by
 have hg:∀ i,i<lv M→gt (cl (nw M zs) (lv M) (tv M) (lv M)) i=nw M zs i:=fun i hi=>by
  rw [gt_cl (by omega)]
  unfold cel
  rw [if_pos hi,if_pos hi]
 refine ⟨⟨cl_len _ _ _ _,cl_fit (nw_lt M zs) _ _ _,fun i b hi hb hn=>?_⟩,?_⟩
 ·rw [hg i hi,nw_bit,hn,decide_eq_true hb];rfl
 ·refine (ris_os _ _).ext Ris.nil fun z=>⟨fun h=>?_,fun h=>by cases h⟩
  obtain ⟨i,hi,hu,_⟩:=mem_os.1 h
  unfold uf at hu
  rw [hg (i/32) (by unfold lv;omega),nw_bit] at hu
  unfold nf at hu
  rw [show 32*(i/32)+i%32=i by omega,decide_eq_false (by omega:¬ M≤i)] at hu
  simp at hu
  rw [hu.1.2] at hu
  exact absurd hu.2 (by simp)
end
end Go.Proofs.YtfhefofkhmkcnaaGreatDoor

/-
 An exact grant,or a question,step by step,as functions of numbers and lists;what holds of it whatever others do between. No program in it.
-/
namespace Go.Proofs.YtfhefofkhmkcnaaGreatDoor
set_option maxRecDepth 100000
set_option maxRecDepth 100000
set_option maxRecDepth 100000
open Go.RowKit
set_option maxHeartbeats 8000000
set_option linter.unusedVariables false
def usdS (s:Sc):Sc:=⟨s.kind,s.addr,5,s.aad,s.used,0,s.shard,s.sought,s.leaf,s.bit,s.word,s.full,s.at_,s.tries,s.item,s.stamp⟩
def tkS (s:Sc) (x:Nat):Sc:=⟨s.kind,s.addr,s.err,s.aad,s.used,3,s.shard,s.sought,s.leaf,s.bit,x,s.full,s.at_,s.tries,s.item,s.stamp⟩
def qyS (s:Sc) (b:Bool):Sc:=⟨s.kind,s.addr,s.err,s.aad,b,0,s.shard,s.sought,s.leaf,s.bit,s.word,s.full,s.at_,s.tries,s.item,s.stamp⟩
/-- A step that read x. -/
def xkS (x:Nat) (s:Sc):Sc:=if s.kind=2 then (if x.testBit s.bit.toNat=true then usdS s else tkS s x) else qyS s (x.testBit s.bit.toNat)
def eS (a M:Nat) (ys:List Nat) (s:Sc):Sc :=
 if s.phase=8 then xkS (gt ys s.leaf.toNat) s
 else if s.phase=3 then claimS a 0 [] (gt ys s.leaf.toNat) s
 else if s.phase=4∨s.phase=5 then stO a M 0 [] ys s
 else s
def eB (ys:List Nat) (s:Sc):Bool :=
 if s.phase=8 then !(decide (s.kind=2) && !(gt ys s.leaf.toNat).testBit s.bit.toNat) else if s.phase=3 then decide (gt ys s.leaf.toNat=s.word) else false
/-- It begins: its kind, its address, its offset. -/
def eS0 (k x:Int) (o:Nat):Sc:=⟨k,x,0,0,false,8,0,0,((o/32:Nat):Int),((o%32:Nat):Int),0,false,0,0,0,0⟩
/-- Where it may be. -/
def EP (a o:Nat) (s:Sc):Prop :=
 (s.phase=8∧s.err=0) ∨
 (s.phase=3∧s.kind=2∧s.err=0∧s.word.testBit (o%32)=false) ∨
 ((s.phase=4∨s.phase=5)∧s.kind=2∧s.full=true∧(s.at_=0∨s.at_=1)∧s.err=0∧s.aad=((a+o:Nat):Int)) ∨
 (s.phase=0∧(s.kind=5∧s.err=0∨s.kind=2∧s.err=5∨s.kind=2∧s.err=0∧s.aad=((a+o:Nat):Int)))
structure EI (a M:Nat) (zs:List Int) (o:Nat) (s:Sc):Prop where
 oM:o<M
 hh:hasB zs (o:Int)=false
 kd:s.kind=2∨s.kind=5
 lf:s.leaf=((o/32:Nat):Int)
 bt:s.bit=((o%32:Nat):Int)
 it:s.item=0
 wd:s.word<18446744073709551616
 ph:EP a o s
section
variable {a M N o n:Nat} {zs xs:List Int} {ys ys0 ys2:List Nat} {s:Sc}
theorem gon_no (h:s.kind≠4):gon a n xs s=ende s:=by
 unfold gon fur
 rw [if_neg (by simp [h])]
theorem dn_no {s:Sc} (h:s.kind≠4) (hf:s.full=true):dn a n xs s=ende s∨(s.at_=0∧dn a n xs s=root_ s):=by
 unfold dn
 split
 ·exact .inl (gon_no h)
 ·rename_i h
  refine .inr ⟨?_,rfl⟩
  unfold ends_ at h
  simp at h
  exact h.1
theorem claimS_no (h:s.kind≠4) (x:Nat):claimS a n xs x s=claimS a 0 [] x s:=by
 unfold claimS
 rw [gon_no (show (adS s _).kind≠4 from h),gon_no (show (adS s _).kind≠4 from h)]
theorem dn_none {s:Sc} (h:s.kind≠4):dn a n xs s=dn a 0 [] s:=by
 unfold dn
 rw [gon_no h,gon_no h]
theorem stO_no (h:s.kind≠4):stO a M n xs ys s=stO a M 0 [] ys s:=by
 have e:∀ x,dn a n xs (worded s x)=dn a 0 [] (worded s x):=fun x=>dn_none (show (worded s x).kind≠4 from h)
 unfold stO lk
 rw [e,e]
theorem EI.k4 (h:EI a M zs o s):s.kind≠4:=by have:=h.kd;omega
theorem EI.fl (h:EI a M zs o s):s.leaf.toNat=o/32:=by rw [h.lf,Int.toNat_natCast]
theorem EI.fb (h:EI a M zs o s):s.bit.toNat=o%32:=by rw [h.bt,Int.toNat_natCast]
theorem EI.le (h:EI a M zs o s):o/32<lv M:=by have:=h.oM;unfold lv;omega
theorem ei_start {k x:Int} (hk:k=2∨k=5) (ho:o<M) (hh:hasB zs (o:Int)=false):EI a M zs o (eS0 k x o):=⟨ho,hh,hk,rfl,rfl,rfl,by show 0<_;omega,.inl ⟨rfl,rfl⟩⟩
/-- What a step comes to, by its Phase. -/
theorem es_read (h:s.phase=8):eS a M ys s=xkS (gt ys s.leaf.toNat) s∧gC M ys s=ys:=by
 constructor
 ·unfold eS;rw [if_pos h]
 ·unfold gC;rw [if_neg (by omega),if_neg (by omega)]
theorem es_claim (h:s.phase=3):eS a M ys s=claimS a 0 [] (gt ys s.leaf.toNat) s∧gC M ys s=claimC ys s∧eB ys s=decide (gt ys s.leaf.toNat=s.word):=by
 refine ⟨?_,?_,?_⟩
 ·unfold eS;rw [if_neg (by omega),if_pos h]
 ·unfold gC;rw [if_pos h]
 ·unfold eB;rw [if_neg (by omega),if_pos h]
theorem es_mark (h:s.phase=4∨s.phase=5):eS a M ys s=stO a M 0 [] ys s∧gC M ys s=stC M ys s∧eB ys s=false:=by
 refine ⟨?_,?_,?_⟩
 ·unfold eS;rw [if_neg (by omega),if_neg (by omega),if_pos h]
 ·unfold gC;rw [if_neg (by omega),if_pos h]
 ·unfold eB;rw [if_neg (by omega),if_neg (by omega)]
theorem es_done (h:s.phase=0):eS a M ys s=s∧gC M ys s=ys∧eB ys s=false:=by
 refine ⟨?_,?_,?_⟩
 ·unfold eS;rw [if_neg (by omega),if_neg (by omega),if_neg (by omega)]
 ·unfold gC;rw [if_neg (by omega),if_neg (by omega)]
 ·unfold eB;rw [if_neg (by omega),if_neg (by omega)]
/-- A step of marking a full leaf: where it is then. -/
theorem mark_go (hk:s.kind≠4) (hp:s.phase=4∨s.phase=5) (hf:s.full=true) (hat:s.at_=0∨s.at_=1) (hwd:s.word<18446744073709551616) (hb:bt s<64) (hx:gt ys (hcel M s)<18446744073709551616) :
  ∃ x,x<18446744073709551616∧(stO a M 0 [] ys s=ende (worded s x)∨(s.phase=4∧stO a M 0 [] ys s=setp (worded s x))∨(s.at_=0∧stO a M 0 [] ys s=root_ (worded s x))):=by
 unfold stO
 split
 ·rename_i h4
  unfold lk
  split
  ·refine ⟨_,hx,?_⟩
   rcases dn_no (a:=a) (n:=0) (xs:=[]) (s:=worded s (gt ys (hcel M s))) hk hf with e | ⟨e0,e⟩
   ·exact .inl e
   ·exact .inr (.inr ⟨e0,e⟩)
  ·exact ⟨_,hx,.inr (.inl ⟨h4,rfl⟩)⟩
 ·refine ⟨mkd s.word (bt s) s.full,mkd_lt _ hwd hb,?_⟩
  rcases dn_no (a:=a) (n:=0) (xs:=[]) (s:=worded s (mkd s.word (bt s) s.full)) hk hf with e | ⟨e0,e⟩
  ·exact .inl e
  ·exact .inr (.inr ⟨e0,e⟩)
theorem stC_leaf (hM:M≤65536) {i:Nat} (hi:i<lv M):gt (stC M ys s) i=gt ys i:=by
 have hcl:lv M≤hcel M s:=by unfold hcel;split <;> omega
 unfold stC
 split
 ·rfl
 ·split
  ·exact gt_sum hcl hi
  ·rfl
theorem stC_yi (hM:M≤65536) (hY:YI M zs ys) (hwd:s.word<18446744073709551616) (hb:bt s<64):YI M zs (stC M ys s):=by
 have hcl:lv M≤hcel M s:=by unfold hcel;split <;> omega
 unfold stC
 split
 ·exact hY
 ·split
  ·exact hY.sum hcl (mkd_lt _ hwd hb)
  ·exact hY
theorem ei_btl (hM:M≤65536) (h:EI a M zs o s):bt s<64:=by
 have:=h.fl
 have:=h.le
 have:=lv_le hM
 unfold bt
 split <;> omega
/-- A step of it. -/
theorem ei_step (hM:M≤65536) (hfit:a+M≤4294967296) (hE:EI a M zs o s) (hY:YI M zs ys):EI a M zs o (eS a M ys s)∧YI M zs (gC M ys s):=by
 have fl:=hE.fl
 have fb':=hE.fb
 have hle:=hE.le
 have hbt:=ei_btl hM hE
 have hk4:=hE.k4
 obtain ⟨oM,hh,kd,lf,bt',it,wd,ph⟩:=hE
 have hx64:∀ j,gt ys j<18446744073709551616:=fun j=>gt_lt hY.fit j
 rcases ph with ⟨p1,p2⟩ | ⟨p1,p2,p3,p4⟩ | ⟨p1,p2,p3,p4,p5,p6⟩ | ⟨p1,p2⟩
 ·obtain ⟨e1,e2⟩:=es_read (a:=a) (M:=M) (ys:=ys) p1
  rw [e1,e2]
  refine ⟨?_,hY⟩
  unfold xkS
  split
  ·rename_i hk
   split
   ·exact ⟨oM,hh,kd,lf,bt',it,wd,.inr (.inr (.inr ⟨rfl,.inr (.inl ⟨hk,rfl⟩)⟩))⟩
   ·rename_i hb
    refine ⟨oM,hh,kd,lf,bt',it,hx64 _,.inr (.inl ⟨rfl,hk,p2,?_⟩)⟩
    rw [fb'] at hb
    exact Bool.eq_false_iff.2 hb
  ·rename_i hk
   exact ⟨oM,hh,kd,lf,bt',it,wd,.inr (.inr (.inr ⟨rfl,.inl ⟨by show s.kind=5;omega,p2⟩⟩))⟩
 ·obtain ⟨e1,e2,_⟩:=es_claim (a:=a) (M:=M) (ys:=ys) p1
  rw [e1,e2,fl]
  have had:(adr a s.leaf.toNat s.bit.toNat:Int)=((a+o:Nat):Int):=by
   rw [fl,fb'];unfold adr;rw [Nat.mod_eq_of_lt (by omega)];omega
  constructor
  ·unfold claimS
   split
   ·split
    ·exact ⟨oM,hh,kd,lf,bt',it,by show 0<_;omega,.inr (.inr (.inl ⟨.inl rfl,p2,rfl,.inl rfl,p3,had⟩))⟩
    ·rw [gon_no (show (adS s _).kind≠4 from hk4)]
     exact ⟨oM,hh,kd,lf,bt',it,by show 0<_;omega,.inr (.inr (.inr ⟨rfl,.inr (.inr ⟨p2,p3,had⟩)⟩))⟩
   ·refine ⟨oM,hh,kd,lf,bt',it,by show 0<_;omega,.inl ⟨?_,p3⟩⟩
    unfold againS;exact if_neg (by omega)
  ·unfold claimC
   rw [fl,fb']
   split
   ·rename_i hx
    refine hY.leaf hle (clm_lt _ _) fun k hk hn=>?_
    rw [clm_bit _ _ hk,← hx,hY.top _ k hle hk hn];rfl
   ·exact hY
 ·obtain ⟨e1,e2,_⟩:=es_mark (a:=a) (M:=M) (ys:=ys) p1
  rw [e1,e2]
  refine ⟨?_,stC_yi hM hY wd hbt⟩
  obtain ⟨x,hx,e | ⟨_,e⟩ | ⟨_,e⟩⟩:=mark_go (a:=a) (M:=M) (ys:=ys) hk4 p1 p3 p4 wd hbt (hx64 _)
  ·rw [e];exact ⟨oM,hh,kd,lf,bt',it,by show 0<_;omega,.inr (.inr (.inr ⟨rfl,.inr (.inr ⟨p2,p5,p6⟩)⟩))⟩
  ·rw [e];exact ⟨oM,hh,kd,lf,bt',it,hx,.inr (.inr (.inl ⟨.inr rfl,p2,p3,p4,p5,p6⟩))⟩
  ·rw [e];exact ⟨oM,hh,kd,lf,bt',it,hx,.inr (.inr (.inl ⟨.inl rfl,p2,p3,.inr rfl,p5,p6⟩))⟩
 ·obtain ⟨e1,e2,_⟩:=es_done (a:=a) (M:=M) (ys:=ys) p1
  rw [e1,e2]
  exact ⟨⟨oM,hh,kd,lf,bt',it,wd,.inr (.inr (.inr ⟨p1,p2⟩))⟩,hY⟩
/-- What it tells at its effect; without one nothing is otherwise. -/
theorem e_eff (hM:M≤65536) (hfit:a+M≤4294967296) (hE:EI a M zs o s) (hY:YI M zs ys) :
  (eB ys s=false→os (uf zs (gC M ys s)) M=os (uf zs ys) M∧((eS a M ys s).phase=0↔s.phase=0∨s.phase=4∨s.phase=5)→True) ∧
  (eB ys s=false→os (uf zs (gC M ys s)) M=os (uf zs ys) M) ∧
  (eB ys s=true→s.kind=5→os (uf zs (gC M ys s)) M=os (uf zs ys) M∧(eS a M ys s).used=hasB (os (uf zs ys) M) (o:Int)) ∧
  (eB ys s=true→s.kind=2→((eS a M ys s).err=5∧os (uf zs (gC M ys s)) M=os (uf zs ys) M∧hasB (os (uf zs ys) M) (o:Int)=true) ∨
   ((eS a M ys s).err=0∧(eS a M ys s).aad=((a+o:Nat):Int)∧hasB (os (uf zs ys) M) (o:Int)=false∧os (uf zs (gC M ys s)) M=ins (os (uf zs ys) M) (o:Int))):=by
 have fl:=hE.fl
 have fb':=hE.fb
 have hle:=hE.le
 have hk4:=hE.k4
 have hus:=has_os (zs:=zs) (ys:=ys) hE.oM hE.hh
 obtain ⟨oM,hh,kd,lf,bt',it,wd,ph⟩:=hE
 refine ⟨fun _ _=>trivial,?_⟩
 rcases ph with ⟨p1,p2⟩ | ⟨p1,p2,p3,p4⟩ | ⟨p1,p2,p3,p4,p5,p6⟩ | ⟨p1,p2⟩
 ·obtain ⟨e1,e2⟩:=es_read (a:=a) (M:=M) (ys:=ys) p1
  rw [e1,e2,fl]
  refine ⟨fun _=>rfl,fun _ hk=>⟨rfl,?_⟩,fun hb hk=>.inl ?_⟩
  ·unfold xkS;rw [if_neg (by omega),hus,fb'];rfl
  ·unfold eB at hb
   rw [if_pos p1,fl,fb',hk] at hb
   have hbit:(gt ys (o/32)).testBit (o%32)=true:=by simpa using hb
   refine ⟨?_,rfl,hus.trans hbit⟩
   unfold xkS;rw [if_pos hk,fb',if_pos hbit];rfl
 ·obtain ⟨e1,e2,e3⟩:=es_claim (a:=a) (M:=M) (ys:=ys) p1
  rw [e1,e2,e3,fl]
  refine ⟨fun hb=>?_,fun _ hk=>absurd hk (by omega),fun hb hk=>.inr ?_⟩
  ·unfold claimC;rw [fl,if_neg (of_decide_eq_false hb)]
  ·have hx:=of_decide_eq_true hb
   have had:(adr a s.leaf.toNat s.bit.toNat:Int)=((a+o:Nat):Int):=by
    rw [fl,fb'];unfold adr;rw [Nat.mod_eq_of_lt (by omega)];omega
   have hcc:claimC ys s=ys.set (o/32) (clm (gt ys (o/32)) (o%32)):=by unfold claimC;rw [fl,fb',if_pos hx,hx]
   have hl:o/32<ys.length:=by have:=hY.len;omega
   refine ⟨?_,?_,by rw [hus,hx];exact p4,by rw [hcc,os_claim hl oM hh]⟩
   ·unfold claimS;rw [if_pos hx]
    split
    ·exact p3
    ·rw [gon_no (show (adS s _).kind≠4 from hk4)];exact p3
   ·unfold claimS;rw [if_pos hx]
    split
    ·exact had
    ·rw [gon_no (show (adS s _).kind≠4 from hk4)];exact had
 ·obtain ⟨e1,e2,e3⟩:=es_mark (a:=a) (M:=M) (ys:=ys) p1
  rw [e2,e3]
  exact ⟨fun _=>os_leaves fun i hi=>stC_leaf hM hi,fun h=>(by cases h),fun h=>(by cases h)⟩
 ·obtain ⟨e1,e2,e3⟩:=es_done (a:=a) (M:=M) (ys:=ys) p1
  rw [e2,e3]
  exact ⟨fun _=>rfl,fun h=>(by cases h),fun h=>(by cases h)⟩
end
end Go.Proofs.YtfhefofkhmkcnaaGreatDoor

/-
  An exact grant alone; two of one address: how many steps they take at most, what they come to. No program in it.
-/
namespace Go.Proofs.YtfhefofkhmkcnaaGreatDoor
set_option maxRecDepth 100000
set_option maxRecDepth 100000
set_option maxRecDepth 100000
open Go.RowKit
set_option linter.unusedVariables false
/-- So many steps it takes at most, where nobody else does anything. -/
def mux (ys : List Nat) (s : Sc) : Nat :=
  if s.phase = 0 then 0 else if s.phase = 5 then (if s.at_ = 0 then 3 else 1) else if s.phase = 4 then (if s.at_ = 0 then 4 else 2)
  else if s.phase = 3 then (if gt ys s.leaf.toNat = s.word then 5 else 7) else 6
section
variable {a M N o : Nat} {zs : List Int} {ys ys0 ys2 : List Nat} {s s1 s2 : Sc}
theorem mux_done (h : s.phase = 0) : mux ys s = 0 := by unfold mux; rw [if_pos h]
theorem mux_zero (h : mux ys s = 0) : s.phase = 0 := by
  unfold mux at h
  split at h
  · assumption
  · repeat' split at h
    all_goals omega
theorem mux_ende : mux ys (ende s) = 0 := mux_done rfl
theorem mux_5 (h : s.phase = 5) : mux ys s = if s.at_ = 0 then 3 else 1 := by unfold mux; rw [if_neg (by omega), if_pos h]
theorem mux_4 (h : s.phase = 4) : mux ys s = if s.at_ = 0 then 4 else 2 := by unfold mux; rw [if_neg (by omega), if_neg (by omega), if_pos h]
theorem mux_3 (h : s.phase = 3) : mux ys s = if gt ys s.leaf.toNat = s.word then 5 else 7 := by unfold mux; rw [if_neg (by omega), if_neg (by omega), if_neg (by omega), if_pos h]
theorem mux_8 (h : s.phase = 8) : mux ys s = 6 := by unfold mux; rw [if_neg (by omega), if_neg (by omega), if_neg (by omega), if_neg (by omega)]
theorem mux_step (hM : M ≤ 65536) (hE : EI a M zs o s) (hY : YI M zs ys) (hp0 : s.phase ≠ 0) : mux (gC M ys s) (eS a M ys s) + 1 ≤ mux ys s := by
  have fl := hE.fl
  have fb' := hE.fb
  have hbt := ei_btl hM hE
  have hk4 := hE.k4
  obtain ⟨oM, hh, kd, lf, bt', it, wd, ph⟩ := hE
  rcases ph with ⟨p1, p2⟩ | ⟨p1, p2, p3, p4⟩ | ⟨p1, p2, p3, p4, p5, p6⟩ | ⟨p1, p2⟩
  · obtain ⟨e1, e2⟩ := es_read (a := a) (M := M) (ys := ys) p1
    rw [e1, e2]
    have h6 : mux ys s = 6 := by unfold mux; rw [if_neg (by omega), if_neg (by omega), if_neg (by omega), if_neg (by omega)]
    rw [h6]
    unfold xkS
    split
    · split
      · rw [mux_done (s := usdS s) rfl]; omega
      · have : mux ys (tkS s (gt ys s.leaf.toNat)) = 5 := (mux_3 (s := tkS s (gt ys s.leaf.toNat)) rfl).trans (if_pos rfl)
        omega
    · rw [mux_done (s := qyS s _) rfl]; omega
  · obtain ⟨e1, e2, _⟩ := es_claim (a := a) (M := M) (ys := ys) p1
    rw [e1, e2]
    unfold claimS
    by_cases hx : gt ys s.leaf.toNat = s.word
    · have h5 : mux ys s = 5 := by unfold mux; rw [if_neg (by omega), if_neg (by omega), if_neg (by omega), if_pos p1, if_pos hx]
      rw [h5, if_pos hx]
      split
      · have : ∀ z ys', mux ys' (fullS z) = 4 := fun z ys' => (mux_4 (s := fullS z) rfl).trans (if_pos rfl)
        rw [this]; omega
      · rw [gon_no (show (adS s _).kind ≠ 4 from hk4), mux_ende]; omega
    · have h7 : mux ys s = 7 := by unfold mux; rw [if_neg (by omega), if_neg (by omega), if_neg (by omega), if_pos p1, if_neg hx]
      rw [h7, if_neg hx]
      have e8 : (againS s).phase = 8 := by unfold againS; exact if_neg (by omega)
      unfold mux
      rw [if_neg (by omega), if_neg (by omega), if_neg (by omega), if_neg (by omega)]
      omega
  · obtain ⟨e1, e2, _⟩ := es_mark (a := a) (M := M) (ys := ys) p1
    rw [e1, e2]
    obtain ⟨x, hx, q | ⟨q4, q⟩ | ⟨q0, q⟩⟩ := mark_go (a := a) (M := M) (ys := ys) hk4 p1 p3 p4 wd hbt (gt_lt hY.fit _)
    · rw [q, mux_ende]
      have : ¬ mux ys s = 0 := fun h => hp0 (mux_zero h)
      omega
    · have h5 : ∀ ys', mux ys' (setp (worded s x)) = if s.at_ = 0 then 3 else 1 := fun ys' => mux_5 (s := setp (worded s x)) rfl
      rw [q, h5, mux_4 q4]
      split <;> omega
    · have h4 : ∀ ys', mux ys' (root_ (worded s x)) = 2 := fun ys' => (mux_4 (s := root_ (worded s x)) rfl).trans (if_neg (by show ¬ (1 : Int) = 0; omega))
      rw [q, h4]
      rcases p1 with h | h
      · rw [mux_4 h, if_pos q0]; omega
      · rw [mux_5 h, if_pos q0]; omega
  · exact absurd p1 hp0
/-- It was granted; it wasn't, so far. -/
def Gtd (s : Sc) : Prop := (s.phase = 4 ∨ s.phase = 5 ∨ s.phase = 0) ∧ s.err = 0
def Not (s : Sc) : Prop := s.phase = 8 ∨ s.phase = 3 ∨ (s.phase = 0 ∧ s.err = 5)
def usd (o : Nat) (ys : List Nat) : Bool := (gt ys (o / 32)).testBit (o % 32)
/-- A step of an exact grant where its address is free, or used. -/
theorem gtd_free (hM : M ≤ 65536) (hE : EI a M zs o s) (hY : YI M zs ys) (hk : s.kind = 2) (hu : usd o ys = false) (hs : s.phase = 8 ∨ s.phase = 3) :
    (usd o (gC M ys s) = false ∧ ((eS a M ys s).phase = 8 ∨ (eS a M ys s).phase = 3) ∧ os (uf zs (gC M ys s)) M = os (uf zs ys) M) ∨ (usd o (gC M ys s) = true ∧ Gtd (eS a M ys s) ∧ os (uf zs (gC M ys s)) M = ins (os (uf zs ys) M) (o : Int)) := by
  have fl := hE.fl
  have fb' := hE.fb
  have hle := hE.le
  have hk4 := hE.k4
  obtain ⟨oM, hh, kd, lf, bt', it, wd, ph⟩ := hE
  have er : s.err = 0 := by rcases ph with ⟨_, h⟩ | ⟨_, _, h, _⟩ | ⟨h, _⟩ | ⟨h, _⟩ <;> omega
  rcases hs with p1 | p1
  · obtain ⟨e1, e2⟩ := es_read (a := a) (M := M) (ys := ys) p1
    rw [e1, e2]
    refine .inl ⟨hu, ?_, rfl⟩
    unfold xkS
    rw [if_pos hk, fl, fb', if_neg (by unfold usd at hu; rw [hu]; exact Bool.false_ne_true)]
    exact .inr rfl
  · obtain ⟨e1, e2, _⟩ := es_claim (a := a) (M := M) (ys := ys) p1
    rw [e1, e2]
    unfold claimS claimC
    rw [fl, fb']
    by_cases hx : gt ys (o / 32) = s.word
    · rw [if_pos hx, if_pos hx]
      have hl : o / 32 < ys.length := by have := hY.len; omega
      refine .inr ⟨?_, ?_, ?_⟩
      · unfold usd; rw [gt_set hl, if_pos rfl, clm_bit _ _ (Nat.mod_lt _ (by omega))]; simp
      · split
        · exact ⟨.inl rfl, er⟩
        · rw [gon_no (show (adS s _).kind ≠ 4 from hk4)]; exact ⟨.inr (.inr rfl), er⟩
      · rw [← hx]; exact os_claim hl oM hh
    · rw [if_neg hx, if_neg hx]
      refine .inl ⟨hu, .inl ?_, rfl⟩
      unfold againS; exact if_neg (by omega)
theorem gtd_used (hM : M ≤ 65536) (hE : EI a M zs o s) (hY : YI M zs ys) (hk : s.kind = 2) (hu : usd o ys = true) :
    usd o (gC M ys s) = true ∧ os (uf zs (gC M ys s)) M = os (uf zs ys) M ∧ (Gtd s → Gtd (eS a M ys s)) ∧ (Not s → Not (eS a M ys s)) := by
  have fl := hE.fl
  have fb' := hE.fb
  have hle := hE.le
  have hbt := ei_btl hM hE
  have hk4 := hE.k4
  obtain ⟨oM, hh, kd, lf, bt', it, wd, ph⟩ := hE
  unfold usd at hu
  rcases ph with ⟨p1, p2⟩ | ⟨p1, p2, p3, p4⟩ | ⟨p1, p2, p3, p4, p5, p6⟩ | ⟨p1, p2⟩
  · obtain ⟨e1, e2⟩ := es_read (a := a) (M := M) (ys := ys) p1
    rw [e1, e2]
    refine ⟨hu, rfl, fun h => (by rcases h.1 with h | h | h <;> omega), fun _ => ?_⟩
    unfold xkS
    rw [if_pos hk, fl, fb', if_pos hu]
    exact .inr (.inr ⟨rfl, rfl⟩)
  · obtain ⟨e1, e2, _⟩ := es_claim (a := a) (M := M) (ys := ys) p1
    have hx : ¬ gt ys (o / 32) = s.word := fun h => by rw [h, p4] at hu; cases hu
    have e3 : claimC ys s = ys := by unfold claimC; rw [fl, if_neg hx]
    rw [e1, e2, e3]
    refine ⟨hu, rfl, fun h => (by rcases h.1 with h | h | h <;> omega), fun _ => ?_⟩
    unfold claimS
    rw [fl, if_neg hx]
    refine .inl ?_
    unfold againS; exact if_neg (by omega)
  · obtain ⟨e1, e2, _⟩ := es_mark (a := a) (M := M) (ys := ys) p1
    rw [e1, e2]
    have hlf := fun i (hi : i < lv M) => stC_leaf (s := s) (ys := ys) hM hi
    refine ⟨by unfold usd; rw [hlf _ hle]; exact hu, os_leaves hlf, fun _ => ?_, fun h => (by rcases h with h | h | h <;> omega)⟩
    obtain ⟨x, hx, q | ⟨q4, q⟩ | ⟨q0, q⟩⟩ := mark_go (a := a) (M := M) (ys := ys) hk4 p1 p3 p4 wd hbt (gt_lt hY.fit _)
    · rw [q]; exact ⟨.inr (.inr rfl), p5⟩
    · rw [q]; exact ⟨.inr (.inl rfl), p5⟩
    · rw [q]; exact ⟨.inl rfl, p5⟩
  · obtain ⟨e1, e2, _⟩ := es_done (a := a) (M := M) (ys := ys) p1
    rw [e1, e2]
    exact ⟨hu, rfl, id, id⟩
/-- What stays of an operation. -/
theorem es_kind (hM : M ≤ 65536) (hE : EI a M zs o s) (hY : YI M zs ys) : (eS a M ys s).kind = s.kind := by
  have hbt := ei_btl hM hE
  have hk4 := hE.k4
  obtain ⟨oM, hh, kd, lf, bt', it, wd, ph⟩ := hE
  rcases ph with ⟨p1, p2⟩ | ⟨p1, p2, p3, p4⟩ | ⟨p1, p2, p3, p4, p5, p6⟩ | ⟨p1, p2⟩
  · rw [(es_read (a := a) (M := M) (ys := ys) p1).1]; unfold xkS; repeat' split
    all_goals rfl
  · rw [(es_claim (a := a) (M := M) (ys := ys) p1).1]; unfold claimS
    rw [gon_no (show (adS s _).kind ≠ 4 from hk4)]
    repeat' split
    all_goals rfl
  · rw [(es_mark (a := a) (M := M) (ys := ys) p1).1]
    obtain ⟨x, hx, q | ⟨q4, q⟩ | ⟨q0, q⟩⟩ := mark_go (a := a) (M := M) (ys := ys) hk4 p1 p3 p4 wd hbt (gt_lt hY.fit _)
    all_goals (rw [q]; rfl)
  · rw [(es_done (a := a) (M := M) (ys := ys) p1).1]
end
end Go.Proofs.YtfhefofkhmkcnaaGreatDoor

/-
 Requests as numbers: what they name,and which error they have. No program stands here but for what a test of a configuration answers.
-/
namespace Go.Proofs.YtfhefofkhmkcnaaGreatDoor
set_option maxRecDepth 100000
set_option maxRecDepth 100000
open Go.RowKit
set_option maxHeartbeats 8000000
/-- What a request of kind k names. -/
def nmI (k x:Int) (ys:List Int):List Int:=if k=2∨k=3∨k=5 then [x] else if k=4 then ys else []
/-- The error of the first name that has one; met: those ahead of it. -/
def chk (a M:Nat) (zs:List Int):List Int→List Int→Int
 | _,[]=>0
 | met,y :: r=>if fiE a M y.toNat zs=0 then (if y∈met then 8 else chk a M zs (y :: met) r) else fiE a M y.toNat zs
/-- The error of a request. -/
def askE (a M:Nat) (zs:List Int) (k x:Int) (ys:List Int):Int :=
 if 1≤k∧k≤7 then (if k=4∧ys.length=0 then 7 else if k=4∧64<ys.length then 1 else chk a M zs [] (nmI k x ys)) else 1
section
variable {a M:Nat} {zs:List Int}
theorem nmI_one {k x:Int} {ys:List Int} (h:k=2∨k=3∨k=5):nmI k x ys=[x]:=by unfold nmI;rw [if_pos h]
theorem nmI_all {x:Int} {ys:List Int}:nmI 4 x ys=ys:=by unfold nmI;rw [if_neg (by omega),if_pos rfl]
theorem nmI_none {k x:Int} {ys:List Int} (h:¬ (k=2∨k=3∨k=5)) (h4:k≠4):nmI k x ys=[]:=by unfold nmI;rw [if_neg h,if_neg h4]
theorem nmI_len {k x:Int} {ys:List Int} {n:Nat} (hn:ys.length≤n) (h1:1≤n):(nmI k x ys).length≤n:=by
 unfold nmI;split
 ·simpa using h1
 ·split
  ·exact hn
  ·simp
theorem fiE_rng (x:Nat):fiE a M x zs=0∨fiE a M x zs=3∨fiE a M x zs=4:=by unfold fiE;(repeat' split) <;> simp
theorem chk_rng:∀ (ys met:List Int),chk a M zs met ys=0∨chk a M zs met ys=3∨chk a M zs met ys=4∨chk a M zs met ys=8
 | [],_=>.inl rfl
 | y :: r,met=>by
  unfold chk
  split
  ·split
   ·simp
   ·exact chk_rng r _
  ·have:=fiE_rng (a:=a) (M:=M) (zs:=zs) y.toNat;omega
theorem askE_rng (k x:Int) (ys:List Int):0≤askE a M zs k x ys∧askE a M zs k x ys≤8:=by
 have:=chk_rng (a:=a) (M:=M) (zs:=zs) (nmI k x ys) []
 unfold askE
 split
 ·split
  ·omega
  ·split <;> omega
 ·omega
/-- One step of it. -/
theorem chk_drop {met ys:List Int} {k:Nat} (h:k<ys.length):chk a M zs met (ys.drop k)=if fiE a M (gi ys k).toNat zs=0 then (if gi ys k∈met then 8 else chk a M zs (gi ys k :: met) (ys.drop (k+1))) else fiE a M (gi ys k).toNat zs:=by
 rw [drop_gi h];rfl
theorem take_rev {ys:List Int} {k:Nat} (h:k<ys.length):(ys.take (k+1)).reverse=gi ys k :: (ys.take k).reverse:=by
 rw [List.take_succ_eq_append_getElem h,List.reverse_append,gi_at h];rfl
theorem mem_take_rev {ys:List Int} {k:Nat} (hk:k≤ys.length) {x:Int}:x∈(ys.take k).reverse↔∃ j,j<k∧gi ys j=x:=by
 rw [List.mem_reverse,List.mem_iff_getElem]
 constructor
 ·rintro ⟨j,hj,e⟩
  have hj':j<k:=by rw [List.length_take] at hj;omega
  exact ⟨j,hj',by rw [gi_at (by omega),← e,List.getElem_take]⟩
 ·rintro ⟨j,hj,e⟩
  exact ⟨j,by rw [List.length_take];omega,by rw [List.getElem_take,← e,gi_at (by omega)]⟩
/-- The state of the loop: what is left is told as the whole would be. -/
def Left_ (a M:Nat) (zs ys:List Int) (k:Nat):Prop:=chk a M zs [] ys=chk a M zs (ys.take k).reverse (ys.drop k)
theorem Left_.start (a M:Nat) (zs ys:List Int):Left_ a M zs ys 0:=by unfold Left_;simp
theorem Left_.bad {ys:List Int} {k:Nat} (h:Left_ a M zs ys k) (hk:k<ys.length) {e:Int} (he:fiE a M (gi ys k).toNat zs=e) (hn:e≠0):chk a M zs [] ys=e:=by
 rw [h,chk_drop hk,if_neg (by omega),he]
theorem Left_.twice {ys:List Int} {k:Nat} (h:Left_ a M zs ys k) (hk:k<ys.length) (he:fiE a M (gi ys k).toNat zs=0) {j:Nat} (hj:j<k) (e:gi ys j=gi ys k):chk a M zs [] ys=8:=by
 rw [h,chk_drop hk,if_pos he,if_pos ((mem_take_rev (by omega)).2 ⟨j,hj,e⟩)]
theorem Left_.step {ys:List Int} {k:Nat} (h:Left_ a M zs ys k) (hk:k<ys.length) (he:fiE a M (gi ys k).toNat zs=0) (hj:∀ j,j<k→gi ys j≠gi ys k):Left_ a M zs ys (k+1):=by
 unfold Left_
 rw [h,chk_drop hk,if_pos he,if_neg (fun g=>by obtain ⟨j,hj',e⟩:=(mem_take_rev (by omega)).1 g;exact hj j hj' e),take_rev hk]
theorem Left_.end_ {ys:List Int} {k:Nat} (h:Left_ a M zs ys k) (hk:ys.length≤k):chk a M zs [] ys=0:=by
 rw [h,List.drop_eq_nil_of_le hk];rfl
/-- Of a list without an error. -/
theorem chk_ok:∀ {ys met:List Int},chk a M zs met ys=0→(∀ y∈ys,fiE a M y.toNat zs=0∧y ∉ met)∧ys.Pairwise (fun x y=>x≠y)
 | [],_,_=>by simp
 | y :: r,met,h=>by
  unfold chk at h
  split at h
  ·rename_i he
   split at h
   ·omega
   ·rename_i hm
    obtain ⟨h1,h2⟩:=chk_ok h
    refine ⟨fun z hz=>?_,?_⟩
    ·rcases List.mem_cons.1 hz with rfl | hz
     ·exact ⟨he,hm⟩
     ·have:=h1 z hz
      exact ⟨this.1,fun g=>this.2 (List.mem_cons_of_mem _ g)⟩
    ·refine List.Pairwise.cons (fun z hz e=>?_) h2
     subst e
     exact (h1 _ hz).2 List.mem_cons_self
  ·omega
theorem chk_one (x:Int):chk a M zs [] [x]=fiE a M x.toNat zs:=by
 unfold chk
 by_cases h:fiE a M x.toNat zs=0
 ·rw [if_pos h,if_neg (by simp),h];rfl
 ·rw [if_neg h]
theorem askE_one {k x:Int} {ys:List Int} (h:k=2∨k=3∨k=5):askE a M zs k x ys=fiE a M x.toNat zs:=by
 unfold askE
 rw [if_pos (by omega),if_neg (by omega),if_neg (by omega),nmI_one h,chk_one]
theorem askE_batch {x:Int} {ys:List Int} (h0:ys.length≠0) (h:ys.length≤64):askE a M zs 4 x ys=chk a M zs [] ys:=by
 unfold askE
 rw [if_pos (by omega),if_neg (by omega),if_neg (by omega),nmI_all]
theorem askE_much {x:Int} {ys:List Int} (h:64<ys.length):askE a M zs 4 x ys=1:=by
 unfold askE
 rw [if_pos (by omega),if_neg (by omega),if_pos ⟨rfl,h⟩]
/-- A request without an error. -/
theorem askE_ok {k x:Int} {ys:List Int} (h:askE a M zs k x ys=0):1≤k∧k≤7∧(k=4→1≤ys.length∧ys.length≤64)∧chk a M zs [] (nmI k x ys)=0:=by
 unfold askE at h
 split at h
 ·rename_i hk
  split at h
  ·omega
  ·split at h
   ·omega
   ·rename_i h1 h2
    refine ⟨hk.1,hk.2,fun e=>⟨?_,?_⟩,h⟩ <;> omega
 ·omega
end
/-! ### the names that were met, as a map -/
open Go.Maps in
def bm:List Int→DataW Unit
 | []=>.map []
 | y :: r=>(bm r).put (.int .u32 y) (.lit (.bool true))
theorem bm_map:∀ l,Maps.IsMap (bm l)
 | []=>Maps.isMap_empty
 | _ :: r=>(bm_map r).put _ _
theorem bm_at {x:Int} (hx:WideAt.IsKeyLit (.int .u32 x)):∀ l,(bm l).atKey (.int .u32 x) (.lit (.bool false))=.lit (.bool (decide (x∈l)))
 | []=>by simp [bm,DataW.atKey]
 | y :: r=>by
  unfold bm
  by_cases h:x=y
  ·subst h
   rw [Maps.atKey_put_same (bm_map r) hx];simp
  ·rw [Maps.atKey_put_other (by simpa using h),bm_at hx r]
   simp [h]
theorem plainElem_bool_inv {H:Type} {P:Program} {e:TypeId} (he:P.underlying e=some .bool) {v:Value} {z:DataW H×List MemPlace} (h:plainElem P e v=some z):∃ x,v=.bool x∧z=(.lit (.bool x),[]):=by
 unfold plainElem at h
 rw [he] at h
 cases v <;> simp at h
 subst h
 exact ⟨_,rfl,rfl⟩
/-- A look-up in a map of bools of the call's own. -/
theorem wpList_lookup_own_bool {H:Type} {P:Program} (w:World) {ops:Array Oper} {rest:List Oper} {o:Oper} {a:Act} {Q:Exit→Act→World→Prop}
  (hg:o.guard=none) (m x:Operand) (t:TypeId) (hop:o.op=Op.lookup t m x false)
  (k e:TypeId) (K:Maps.Keyed P k) (ht:P.underlying t=some (.map k e)) (he:P.underlying e=some .bool) (hz:(zeroValue e).run P w=.ok (.bool false) w) (b n:Nat) (D:DataW H)
  (hm:a.eval m=.map (some b)) (hown:w.ownsMap P k (plainElem P e) b n D) (key:Value) (kl:Lit) (hx:a.eval x=key) (hkey:keyOf P k key=some kl) (bo:Bool) (hbo:D.atKey kl (.lit (.bool false))=.lit (.bool bo))
  (hK:wpList P ops Q rest (a.put o.dst (.bool bo)) w) :
  wpList P ops Q (o :: rest) a w:=by
 refine wpList_plain hg fun K' hK'=>?_
 obtain ⟨v,ps,hrun,hv⟩:=hown.lookup K ht hz (plainElem_bool he false) hkey
 obtain ⟨c,rfl,hc⟩:=plainElem_bool_inv he hv
 rw [hbo] at hc
 simp only [Prod.mk.injEq,DataW.lit.injEq,Lit.bool.injEq] at hc
 obtain ⟨rfl,_⟩:=hc
 unfold Oper.wp
 simp [execOp,hop,hm,hx,hrun,Result.andThen]
 exact hK' _ _ hK
end Go.Proofs.YtfhefofkhmkcnaaGreatDoor

/-
 What a request asks for: kinds,sizes,lists held against one another,names;nothing that was there is otherwise. The table of kinds is as the row lists it.
-/
namespace Go.Proofs.YtfhefofkhmkcnaaGreatDoor
set_option maxRecDepth 100000
set_option maxRecDepth 100000
open Go.RowKit
set_option maxHeartbeats 8000000
def nt:Array Value:=#[.bool false,.bool false,.bool true,.bool true,.bool false,.bool true,.bool false,.bool false]
/-- The table of the kinds that name one address. -/
def Laid (w:World):Prop:=0<w.heap.size∧∀ i,i<8→w.cell? ⟨0,i,none⟩=some (nt.getD i (.bool false))
theorem Laid.below {w w':World} (h:Laid w) (K:Below w.heap.size w w'):Laid w':=⟨Nat.lt_of_lt_of_le h.1 K.size,fun i hi=>(K.cell (p:=⟨0,i,none⟩) h.1).trans (h.2 i hi)⟩
def RetWa (P:Prop) (w:World) (e:Ending) (w':World):Prop:=∃ b,e=.returned (.bool b)∧(b=true→P)∧Below w.heap.size w w'
theorem RetBo.no {P:Prop} {w w':World} {e:Ending} (h:RetBo false w e w'):RetWa P w e w':=⟨false,h.1,(fun e=>by cases e),h.2⟩
/-- What is known of a configuration that may be. -/
structure Cf (a:Nat) (p:Int) (n:Nat) (zs:List Int) (M:Nat):Prop where
 much:Much a p M
 few:n≤64
 ris:risB M 0 zs=true
section
variable {w:World} {lo a m d:Nat} {p sh wo qu tr:Int} {A B:Option Addr} {n c:Nat} {zs:List Int}
theorem Cf.of (h:confB a p n zs sh wo qu tr=true):∃ M,Cf a p n zs M:=by
 obtain ⟨h1,h2,h3,_⟩:=confB_no h
 refine ⟨2 ^ (32 - p.toNat),Much.of h1,h2,?_⟩
 rw [← (Much.of h1).manyI]
 exact h3
end
theorem IS.lit {k:IntKind} {w:World} {g:Nat} {t:TypeId} (xs:List Int) {n:Nat} (h:Bk w g t (xs.map (iv k)).toArray) (hn:xs.length=n) (hm:n≤65536):IS k 0 w (some ⟨g,0,none⟩) n n xs :=
 ⟨hn,Nat.le_refl _,by unfold maxLen;omega,(fun e=>by cases e),fun _=>⟨g,0,rfl,Nat.zero_le _,h.lt,fun j hj=>by
  rw [Nat.zero_add,h.at_ j (v:=.int k (gi xs j)) (by simp [gi_at (xs:=xs) (j:=j) (by omega),iv,show j<xs.length by omega])]⟩⟩
theorem ak_sz {c0 c1 c2:Value}:(Tryz.prog.info? 30).map (·.size)=some (#[c0,c1,c2]:Array Value).size:=by kernel_rfl
/-- Numbers of 32 bits. -/
def W32 (ys:List Int):Prop:=∀ y∈ys,0≤y∧y<4294967296
theorem W32.at_ {ys:List Int} (h:W32 ys) {k:Nat} (hk:k<ys.length):∃ y:Nat,gi ys k=y∧y<4294967296:=by
 have:=h _ (gi_mem hk)
 exact ⟨(gi ys k).toNat,by omega,by omega⟩
theorem known_any (k:Int) (w:World) :
  Calls Tryz.prog 80 #[.int .i64 k] w fun e w'=>e=.returned (.bool (decide (1≤k∧k≤7)))∧w'=w:=by
 by_cases h1:1≤k
 ·by_cases h2:k≤7
  ·go_enter Tryz.func80,Tryz.ntmps80
   go_wp2
   go_ret
   exact ⟨ret_bool (by simp [h1,h2]),rfl⟩
  ·go_enter Tryz.func80,Tryz.ntmps80
   go_wp2
   go_ret
   exact ⟨ret_bool (by simp [h2]),rfl⟩
 ·go_enter Tryz.func80,Tryz.ntmps80
  go_wp2
  go_ret
  exact ⟨ret_bool (by simp;omega),rfl⟩
def szE (n:Int):Int:=if n=0 then 7 else if 64<n then 1 else 0
theorem sized_any (n:Int) (w:World) :
  Calls Tryz.prog 81 #[.int .i64 n] w fun e w'=>e=.returned (.int .i64 (szE n))∧w'=w:=by
 by_cases h1:n=0
 ·subst h1
  go_enter Tryz.func81,Tryz.ntmps81
  go_wp2
  go_ret
  exact ⟨rfl,rfl⟩
 ·have e1:(n == 0)=false:=by simp [h1]
  by_cases h2:64<n
  ·go_enter Tryz.func81,Tryz.ntmps81
   go_wp2
   go_ret
   exact ⟨ret_int (by unfold szE;rw [if_neg h1,if_pos h2]),rfl⟩
  ·go_enter Tryz.func81,Tryz.ntmps81
   go_wp2
   go_ret
   exact ⟨ret_int (by unfold szE;rw [if_neg h1,if_neg (by omega)]),rfl⟩
section
variable {w:World} {lo lo':Nat} {A A':Option Addr} {n n' c c':Nat} {xs xs':List Int}
theorem ext_dec {k:Nat} (h:IS .u32 lo w A n c xs) (h':IS .u32 lo' w A' n c' xs') (hk:n≤k) (e:∀ j,j<k→gi xs j=gi xs' j):xs=xs' :=
 ext_gi (h.len.trans h'.len.symm) (fun j hj=>e j (by have:=h.len;omega))
theorem raddrs_any (h:IS .u32 lo w A n c xs) (h':IS .u32 lo' w A' n' c' xs') (hn:n≤65536) (hn':n'≤65536) :
  Calls Tryz.prog 50 #[.slice A n c,.slice A' n' c'] w (RetBo (decide (xs=xs')) w):=by
 have hl:=h.len
 have hl':=h'.len
 by_cases hnn:n=n'
 ·subst hnn
  have e0:((n:Int) != (n:Int))=false:=by simp
  have hl2:=Lib.hid hl'
  clear hl'
  go_enter Tryz.func50,Tryz.ntmps50
  go_wp2
  go_loopw [5] (fun i wr=>∃ k:Nat,k≤n∧i=.int .i64 k∧Below w.heap.size w wr∧Hid (∀ j,j<k→gi xs j=gi xs' j)) (fun i _=>n - (intOf i).toNat)
  case atStart=>exact ⟨0,Nat.zero_le _,rfl,Below.refl _ _,Lib.hid (fun j hj=>absurd hj (by omega))⟩
  case round =>
   obtain ⟨k,hk,rfl,Kr,he⟩:=hrel
   by_cases hlt:k<n
   ·obtain ⟨b,o,rfl,_,hc⟩:=(h.below Kr).get hlt
    obtain ⟨b',o',rfl,_,hc'⟩:=(h'.below Kr).get hlt
    by_cases hx:gi xs k=gi xs' k
    ·have e1:(gi xs k != gi xs' k)=false:=by simp [hx]
     have hx:=Lib.hid hx
     go_wp2
     go_quiet (fail)
     go_wp2
     go_roundw
     case rel =>
      refine ⟨k+1,by omega,by go_num,below_drewN Kr _,Lib.hid (fun j hj=>?_)⟩
      rcases Nat.lt_or_ge j k with g | g
      ·exact he.out j g
      ·obtain rfl:j=k:=by omega
       exact hx.out
     case measure=>simp [intOf];omega
    ·have e1:(gi xs k != gi xs' k)=true:=by simp [hx]
     have hx:=Lib.hid hx
     go_wp2
     go_quiet (fail)
     go_wp2
     go_ret
     exact ⟨ret_bool (by simp;intro e;exact hx.out (by rw [e])),below_drewN Kr _⟩
   ·go_wp2
    go_ret
    exact ⟨ret_bool (by simp;exact ext_dec h h' (by omega) he.out),Kr⟩
 ·have e0:((n:Int) != (n':Int))=true:=by simp;omega
  have hx:¬ xs=xs':=by intro e;rw [e] at hl;omega
  clear hl hl'
  have hx:=Lib.hid hx
  go_enter Tryz.func50,Tryz.ntmps50
  go_wp2
  go_ret
  exact ⟨ret_bool (by simp [hx.out]),Below.refl _ _⟩
end
end Go.Proofs.YtfhefofkhmkcnaaGreatDoor

/-
 The names of requests,the program's and the document's: a list in memory of the call's own;whether a request has few;nothing that was there is otherwise. Conditions: at most 60000 addresses.
-/
namespace Go.Proofs.YtfhefofkhmkcnaaGreatDoor
set_option maxRecDepth 100000
set_option maxRecDepth 100000
open Go.RowKit
set_option maxHeartbeats 8000000
/-- A list of addresses in memory of the call's own is answered. -/
def RetRn (l:List Int) (w:World) (e:Ending) (w':World):Prop:=∃ A n c,e=.returned (.slice A n c)∧Ri .u32 22 w' w.heap.size (.slice A n c) n l∧Below w.heap.size w w'
theorem known_yes {k:Int} (h:1≤k∧k≤7) (w:World):Calls Tryz.prog 80 #[.int .i64 k] w fun e w'=>e=.returned (.bool true)∧w'=w:=by
 have:=known_any k w;rwa [decide_eq_true h] at this
theorem known_no {k:Int} (h:¬ (1≤k∧k≤7)) (w:World):Calls Tryz.prog 80 #[.int .i64 k] w fun e w'=>e=.returned (.bool false)∧w'=w:=by
 have:=known_any k w;rwa [decide_eq_false h] at this
section
variable {w:World} {lo m d:Nat} {k:Int} {x:Int} {B:Option Addr} {ys:List Int}
theorem Ri.one {base:Nat} {w:World} (hb:base≤w.heap.size) (x:Int):Ri .u32 22 (w.alloc (.cells #[.int .u32 x] 22)) base (.slice (some ⟨w.heap.size,0,none⟩) 1 1) 1 [x] :=
 World.ownsRow_lit w #[.int .u32 x] 1 hb (by unfold maxLen;omega) rfl
theorem Ri.none_ {base:Nat} (w:World):Ri .u32 22 w base (.slice none 0 0) 0 []:=World.ownsRow_nil w base _ 1
theorem names_any (hL:Laid w) (h:IS .u32 lo w B m d ys) (hm:m≤60000) :
  Calls Tryz.prog 83 #[.agg #[.int .i64 k,.int .u32 x,.slice B m d]] w (RetRn (nmI k x ys) w):=by
 have K:=below_alloc w (.cells #[.int .i64 k,.int .u32 x,.slice B m d] 30)
 have H:=Bk.new w #[.int .i64 k,.int .u32 x,.slice B m d] 30
 replace hL:=hL.below K
 replace h:=h.below K
 have hl:=h.len
 go_enter Tryz.func83,Tryz.ntmps83
 go_upto_region 1 with (fail)
 generalize w.alloc (.cells #[.int .i64 k,.int .u32 x,.slice B m d] 30)=w1 at H K hL h ⊢
 generalize w.heap.size=g at H ⊢
 have KS:=K.size
 have H_0:=H.at_ (v:=.int .i64 k) 0 rfl
 have H_1:=H.at_ (v:=.int .u32 x) 1 rfl
 have H_2:=H.at_ (v:=.slice B m d) 2 rfl
 have H_z:=H.lt
 by_cases hk:1≤k∧k≤7
 ·have T:=known_yes hk w1
  by_cases h1:k=2∨k=3∨k=5
  ·have N:=Lib.hid (nmI_one (x:=x) (ys:=ys) h1)
   clear hk
   have L2:w1.cell? ⟨0,2,none⟩=some (.bool true):=hL.2 2 (by omega)
   have L3:w1.cell? ⟨0,3,none⟩=some (.bool true):=hL.2 3 (by omega)
   have L5:w1.cell? ⟨0,5,none⟩=some (.bool true):=hL.2 5 (by omega)
   rcases h1 with rfl | rfl | rfl
   all_goals
    go_wp2_with fail
    refine T.mono ?_
    rintro e ww ⟨rfl,rfl⟩
    go_wp2
    go_ret
    rw [N.out]
    exact ⟨_,_,_,rfl,Ri.one KS x,Below.then_ K (below_alloc _ _)⟩
  ·by_cases h4:k=4
   ·subst h4
    rw [nmI_all]
    have L4:w1.cell? ⟨0,4,none⟩=some (.bool false):=hL.2 4 (by omega)
    obtain ⟨i0,hi,hz0,hz1,hz2⟩:=info_parts u32_info
    obtain ⟨B1,b1,wq,hap,R1,K1⟩:=run_app (P:=Tryz.prog) Tryz.underlying28 hi hz0 hz1 (by omega) (Ri.none_ (base:=w.heap.size) w1) h (by omega) KS 28
    rw [Nat.zero_add] at hap R1
    rw [List.nil_append] at R1
    have HA:=Lib.hid hap
    clear hap hi hz0 hz1 hz2
    go_wp2_with fail
    refine T.mono ?_
    rintro e ww ⟨rfl,rfl⟩
    go_wp2_with (first | (at_builtin;refine wpList_append_run rfl (.const (.slice none 0 0)) (.tmp 21) 28 rfl _ _ _ _ rfl rfl HA.out ?_))
    go_ret
    exact ⟨_,_,_,rfl,R1,K.trans K1⟩
   ·have N:=Lib.hid (nmI_none (x:=x) (ys:=ys) h1 h4)
    have L1:w1.cell? ⟨0,1,none⟩=some (.bool false):=hL.2 1 (by omega)
    have L6:w1.cell? ⟨0,6,none⟩=some (.bool false):=hL.2 6 (by omega)
    have L7:w1.cell? ⟨0,7,none⟩=some (.bool false):=hL.2 7 (by omega)
    obtain rfl | rfl | rfl:k=1∨k=6∨k=7:=by omega
    all_goals
     clear h1 h4 hk
     go_wp2_with fail
     refine T.mono ?_
     rintro e ww ⟨rfl,rfl⟩
     go_wp2
     go_ret
     rw [N.out]
     exact ⟨_,_,_,rfl,Ri.none_ _,K⟩
 ·have T:=known_no hk w1
  have N:=Lib.hid (nmI_none (k:=k) (x:=x) (ys:=ys) (by omega) (by omega))
  clear hk
  go_wp2_with fail
  refine T.mono ?_
  rintro e ww ⟨rfl,rfl⟩
  go_wp2
  go_ret
  rw [N.out]
  exact ⟨_,_,_,rfl,Ri.none_ _,K⟩
theorem rnames_any (h:IS .u32 lo w B m d ys) (hm:m≤60000) :
  Calls Tryz.prog 49 #[.agg #[.int .i64 k,.int .u32 x,.slice B m d]] w (RetRn (nmI k x ys) w):=by
 have K:=below_alloc w (.cells #[.int .i64 k,.int .u32 x,.slice B m d] 30)
 have H:=Bk.new w #[.int .i64 k,.int .u32 x,.slice B m d] 30
 replace h:=h.below K
 have hl:=h.len
 go_enter Tryz.func49,Tryz.ntmps49
 go_upto_region 1 with (fail)
 generalize w.alloc (.cells #[.int .i64 k,.int .u32 x,.slice B m d] 30)=w1 at H K h ⊢
 generalize w.heap.size=g at H ⊢
 have KS:=K.size
 have H_0:=H.at_ (v:=.int .i64 k) 0 rfl
 have H_1:=H.at_ (v:=.int .u32 x) 1 rfl
 have H_2:=H.at_ (v:=.slice B m d) 2 rfl
 have H_z:=H.lt
 by_cases h1:k=2∨k=3∨k=5
 ·have N:=Lib.hid (nmI_one (x:=x) (ys:=ys) h1)
  rcases h1 with rfl | rfl | rfl
  all_goals
   go_wp2
   go_ret
   rw [N.out]
   exact ⟨_,_,_,rfl,Ri.one KS x,Below.then_ K (below_alloc _ _)⟩
 ·by_cases h4:k=4
  ·subst h4
   rw [nmI_all]
   obtain ⟨i0,hi,hz0,hz1,hz2⟩:=info_parts u32_info
   have hown:Ri .u32 22 (w1.alloc (.cells #[] 22)) w.heap.size (.slice (some ⟨w1.heap.size,0,none⟩) 0 0) 0 []:=World.ownsRow_lit w1 #[] 0 KS (by unfold maxLen;omega) rfl
   have Ka:=below_alloc w1 (.cells #[] 22)
   obtain ⟨B1,b1,wq,hap,R1,K1⟩:=run_app (P:=Tryz.prog) Tryz.underlying28 hi hz0 hz1 (by omega) hown (h.below Ka) (by omega) (Nat.le_trans KS Ka.size) 28
   rw [Nat.zero_add] at hap R1
   rw [List.nil_append] at R1
   have HA:=Lib.hid hap
   clear hap hi hz0 hz1 hz2 hown
   go_wp2_with (first | (at_builtin;refine wpList_append_run rfl (.tmp 22) (.tmp 24) 28 rfl _ _ _ _ rfl rfl HA.out ?_))
   go_ret
   exact ⟨_,_,_,rfl,R1,(Below.then_ K Ka).trans K1⟩
  ·have N:=Lib.hid (nmI_none (x:=x) (ys:=ys) h1 h4)
   have e2:(k == 2)=false:=by simp;omega
   have e3:(k == 3)=false:=by simp;omega
   have e5:(k == 5)=false:=by simp;omega
   have e4:(k == 4)=false:=by simp;omega
   clear h1 h4
   go_wp2
   go_ret
   rw [N.out]
   exact ⟨_,_,_,rfl,Ri.none_ _,K⟩
theorem few_any (h:IS .u32 lo w B m d ys) :
  Calls Tryz.prog 9 #[.agg #[.int .i64 k,.int .u32 x,.slice B m d]] w (RetBo (decide (m≤100)) w):=by
 have K:=below_alloc w (.cells #[.int .i64 k,.int .u32 x,.slice B m d] 30)
 have H:=Bk.new w #[.int .i64 k,.int .u32 x,.slice B m d] 30
 have hc:=h.cap
 have hm:=h.most
 go_enter Tryz.func9,Tryz.ntmps9
 go_upto_region 1 with (fail)
 generalize w.alloc (.cells #[.int .i64 k,.int .u32 x,.slice B m d] 30)=w1 at H K ⊢
 generalize w.heap.size=g at H ⊢
 have H_2:=H.at_ (v:=.slice B m d) 2 rfl
 have H_z:=H.lt
 go_wp2
 go_ret
 exact ⟨ret_bool (by simp;omega),K⟩
theorem few_yes (h:IS .u32 lo w B m d ys) (hf:m≤100) :
  Calls Tryz.prog 9 #[.agg #[.int .i64 k,.int .u32 x,.slice B m d]] w (RetBo true w):=by
 have:=few_any (k:=k) (x:=x) h;rwa [decide_eq_true hf] at this
theorem few_no (h:IS .u32 lo w B m d ys) (hf:¬ m≤100) :
  Calls Tryz.prog 9 #[.agg #[.int .i64 k,.int .u32 x,.slice B m d]] w (RetBo false w):=by
 have:=few_any (k:=k) (x:=x) h;rwa [decide_eq_false hf] at this
end
end Go.Proofs.YtfhefofkhmkcnaaGreatDoor

/-
 The names of a request gone through,with those that were met kept in a map: the error of the first one that has one;nothing that was there is otherwise.
-/
namespace Go.Proofs.YtfhefofkhmkcnaaGreatDoor
set_option maxRecDepth 100000
set_option maxRecDepth 100000
open Go.RowKit
set_option maxHeartbeats 8000000
theorem wf_of_u32 {y:Nat} (h:y<4294967296):(Lit.int .u32 (y:Int)).wf=true:=by
 simp [Lit.wf,IntKind.min,IntKind.max,IntKind.bits,IntKind.signed];omega
theorem key_law:Maps.Keyed Tryz.prog 22:=Maps.int_keyed Tryz.underlying22
theorem zero_bool (w:World):(zeroValue 4).run Tryz.prog w=.ok (.bool false) w:=by kernel_rfl
theorem own_map_below {w w':World} {b n:Nat} {D:DataW Unit} (h:w.ownsMap Tryz.prog 22 (plainElem Tryz.prog 4) b n D) (K:Below w.heap.size w w'):w'.ownsMap Tryz.prog 22 (plainElem Tryz.prog 4) b n D:=by
 have hlt:=h.lt
 obtain ⟨es,clock,hb,r⟩:=h
 exact ⟨es,clock,(K.block b hlt).trans hb,r⟩
section
variable {w:World} {lo lo2 a M m d:Nat} {p sh wo qu tr:Int} {A B:Option Addr} {n c:Nat} {zs ys:List Int}
theorem each_any (ha:a<4294967296) (hM:Much a p M) (h:IS .i64 lo w A n c zs) (hn:n≤65536) (hs:IS .u32 lo2 w B m d ys) (hm:m≤60000) (hw:W32 ys) :
  Calls Tryz.prog 82 #[.agg #[.int .u32 a,.int .i64 p,.slice A n c,.int .i64 sh,.int .i64 wo,.int .i64 qu,.int .i64 tr],.slice B m d] w fun e w'=>e=.returned (.int .i64 (chk a M zs [] ys))∧Below w.heap.size w w':=by
 have K:=below_alloc w (.cells #[.int .u32 a,.int .i64 p,.slice A n c,.int .i64 sh,.int .i64 wo,.int .i64 qu,.int .i64 tr] 27)
 have H:=Bk.new w #[.int .u32 a,.int .i64 p,.slice A n c,.int .i64 sh,.int .i64 wo,.int .i64 qu,.int .i64 tr] 27
 replace h:=h.below K
 replace hs:=hs.below K
 have hl:=Lib.hid hs.len
 have hmm:=@run_makeMap Tryz.prog
 go_enter Tryz.func82,Tryz.ntmps82
 go_upto_region 1 with (fail)
 generalize w.alloc (.cells #[.int .u32 a,.int .i64 p,.slice A n c,.int .i64 sh,.int .i64 wo,.int .i64 qu,.int .i64 tr] 27)=w1 at H K h hs ⊢
 generalize w.heap.size=g at H ⊢
 go_wp2
 have O:=World.ownsMap_made w1 Tryz.prog 22 (plainElem (H:=Unit) Tryz.prog 4)
 have K1:=below_alloc w1 (.map #[] 0)
 generalize w1.alloc (.map #[] 0)=w2 at O K1 ⊢
 obtain ⟨gm,hgm⟩:∃ gm,gm=w1.heap.size:=⟨_,rfl⟩
 rw [← hgm] at O ⊢
 have hgb:w1.heap.size≤gm:=by omega
 clear hgm
 go_loopw [13] (fun i wr=>∃ k:Nat,k≤m∧i=.int .i64 k∧Below w1.heap.size w1 wr∧wr.ownsMap Tryz.prog 22 (plainElem Tryz.prog 4) gm k (bm (ys.take k).reverse)∧Hid (Left_ a M zs ys k)) (fun i _=>m - (intOf i).toNat)
 case atStart=>exact ⟨0,Nat.zero_le _,rfl,K1,O,Lib.hid (Left_.start _ _ _ _)⟩
 clear O K1
 case round =>
  obtain ⟨k,hk,rfl,Kr,O,L⟩:=hrel
  by_cases hlt:k<m
  ·replace H:=H.below Kr
   replace h:=h.below Kr
   obtain ⟨y,hy,hyb⟩:=hw.at_ (k:=k) (by have:=hl.out;omega)
   obtain ⟨b,o,rfl,_,hc⟩:=(hs.below Kr).get hlt
   rw [hy] at hc
   have H_0:=H.at_ (v:=.int .u32 a) 0 rfl
   have H_1:=H.at_ (v:=.int .i64 p) 1 rfl
   have H_2:=H.at_ (v:=.slice A n c) 2 rfl
   have H_3:=H.at_ (v:=.int .i64 sh) 3 rfl
   have H_4:=H.at_ (v:=.int .i64 wo) 4 rfl
   have H_5:=H.at_ (v:=.int .i64 qu) 5 rfl
   have H_6:=H.at_ (v:=.int .i64 tr) 6 rfl
   have H_z:=H.lt
   have T:=Lib.hid (find_any (p:=p) (A:=A) (n:=n) (c:=c) (sh:=sh) (wo:=wo) (qu:=qu) (tr:=tr) y hyb ha hM h hn)
   have hkl:k<ys.length:=by have:=hl.out;omega
   replace hkl:=Lib.hid hkl
   have hfE:fiE a M (gi ys k).toNat zs=fiE a M y zs:=by rw [hy];rfl
   generalize fiE a M y zs=E at T hfE
   generalize fiO a M y zs=F at T
   replace hfE:=Lib.hid hfE
   replace hy:=Lib.hid hy
   by_cases hE:E=0
   ·subst hE
    have hkey:keyOf Tryz.prog 22 (.int .u32 (y:Int))=some (.int .u32 (y:Int)):=Maps.keyOf_int_mk Tryz.underlying22 (wf_of_u32 hyb)
    go_wp2_with fail
    refine T.out.mono ?_
    rintro e w3 ⟨rfl,K'⟩
    clear H_0 H_1 H_2 H_3 H_4 H_5 H_6 H_z T
    replace O:=own_map_below O K'
    have Ka:=Kr.trans (K'.mono Kr.size)
    have hat:=bm_at (key_law.key hkey) (ys.take k).reverse
    by_cases hin:(y:Int)∈(ys.take k).reverse
    ·rw [decide_eq_true hin] at hat
     go_wp2_with (first | (at_lookup;refine wpList_lookup_own_bool _ rfl _ _ 115 rfl 22 4 key_law Tryz.underlying115 Tryz.underlying4 (zero_bool _) gm k _ rfl O _ _ rfl hkey _ hat ?_))
     go_ret
     refine ⟨ret_int ?_,Below.then_ K Ka⟩
     obtain ⟨j,hj,e⟩:=(mem_take_rev (by have:=hkl.out;omega)).1 hin
     exact (L.out.twice hkl.out hfE.out hj (e.trans hy.out.symm)).symm
    ·rw [decide_eq_false hin] at hat
     replace hin:=Lib.hid hin
     go_wp2_with (first | (at_lookup;refine wpList_lookup_own_bool _ rfl _ _ 115 rfl 22 4 key_law Tryz.underlying115 Tryz.underlying4 (zero_bool _) gm k _ rfl O _ _ rfl hkey _ hat ?_) | (at_mapUpdate;refine wpList_mapUpdate_own _ rfl _ _ _ 115 rfl 22 4 key_law Tryz.underlying115 _ gm k _ rfl O (by unfold maxLen;omega) _ _ _ rfl rfl hkey _ [] (plainElem_bool Tryz.underlying4 true) ?_;intro w4 O4 G4))
     go_roundw
     case rel =>
      refine ⟨k+1,by omega,by go_num,?_,?_,Lib.hid ?_⟩
      ·exact Ka.grown G4 (Nat.le_trans (Nat.le_refl _) Ka.size) (by intro j hj;cases hj;exact hgb)
      ·rw [take_rev hkl.out,hy.out];exact O4
      ·exact L.out.step hkl.out hfE.out (fun j hj e=>hin.out ((mem_take_rev (by have:=hkl.out;omega)).2 ⟨j,hj,e.trans hy.out⟩))
     case measure=>simp [intOf];omega
   ·have e1:(E != 0)=true:=by simp [hE]
    replace hE:=Lib.hid hE
    go_wp2_with fail
    refine T.out.mono ?_
    rintro e w3 ⟨rfl,K'⟩
    go_wp2
    go_ret
    exact ⟨ret_int (L.out.bad hkl.out hfE.out hE.out).symm,Below.then_ K (Kr.trans (K'.mono Kr.size))⟩
  ·go_wp2
   go_ret
   exact ⟨ret_int (L.out.end_ (by have:=hl.out;omega)).symm,Below.then_ K Kr⟩
end
end Go.Proofs.YtfhefofkhmkcnaaGreatDoor

/-
 Requests looked at,by the program and by the document's definition: the same error;nothing that was there is otherwise. Conditions: at most 60000 addresses.
-/
namespace Go.Proofs.YtfhefofkhmkcnaaGreatDoor
set_option maxRecDepth 100000
set_option maxRecDepth 100000
open Go.RowKit
set_option maxHeartbeats 8000000
theorem W32.nm {k:Int} {X:Nat} {ys:List Int} (hX:X<4294967296) (hw:W32 ys):W32 (nmI k X ys):=by
 unfold nmI;split
 ·intro y hy;simp only [List.mem_singleton] at hy;omega
 ·split
  ·exact hw
  ·intro y hy;simp at hy
theorem Ri.is_ {w:World} {base n c:Nat} {A:Option Addr} {xs:List Int} (h:Ri .u32 22 w base (.slice A n c) n xs):IS .u32 base w A n c xs:=h.is
theorem szE_none:szE 0=7:=rfl
theorem szE_much {n:Nat} (h:64<n):szE (n:Int)=1:=by unfold szE;rw [if_neg (by omega),if_pos (by omega)]
theorem szE_ok {n:Nat} (h0:n≠0) (h:n≤64):szE (n:Int)=0:=by unfold szE;rw [if_neg (by omega),if_neg (by omega)]
theorem sized_is {n:Nat} {v:Int} (h:szE (n:Int)=v) (w:World):Calls Tryz.prog 81 #[.int .i64 (n:Int)] w fun e w'=>e=.returned (.int .i64 v)∧w'=w:=by
 subst h;exact sized_any _ w
section
variable {w:World} {lo lo2 a M m d X:Nat} {p sh wo qu tr k:Int} {A B:Option Addr} {n c:Nat} {zs ys:List Int}
theorem check_any (hL:Laid w) (ha:a<4294967296) (hM:Much a p M) (h:IS .i64 lo w A n c zs) (hn:n≤65536) (hs:IS .u32 lo2 w B m d ys) (hm:m≤60000) (hX:X<4294967296) (hw:W32 ys) :
  Calls Tryz.prog 71 #[.agg #[.int .u32 a,.int .i64 p,.slice A n c,.int .i64 sh,.int .i64 wo,.int .i64 qu,.int .i64 tr],.agg #[.int .i64 k,.int .u32 (X:Int),.slice B m d]] w fun e w'=>e=.returned (.int .i64 (askE a M zs k X ys))∧Below w.heap.size w w':=by
 have K:=Below.refl w.heap.size w
 go_enter Tryz.func71,Tryz.ntmps71
 go_upto_region 1 with (fail)
 replace hL:=hL.below (below_alloc _ (.cells #[.int .u32 a,.int .i64 p,.slice A n c,.int .i64 sh,.int .i64 wo,.int .i64 qu,.int .i64 tr] 27))
 replace h:=h.below (below_alloc _ (.cells #[.int .u32 a,.int .i64 p,.slice A n c,.int .i64 sh,.int .i64 wo,.int .i64 qu,.int .i64 tr] 27))
 replace hs:=hs.below (below_alloc _ (.cells #[.int .u32 a,.int .i64 p,.slice A n c,.int .i64 sh,.int .i64 wo,.int .i64 qu,.int .i64 tr] 27))
 replace K:=Below.then_ K (below_alloc _ (.cells #[.int .u32 a,.int .i64 p,.slice A n c,.int .i64 sh,.int .i64 wo,.int .i64 qu,.int .i64 tr] 27))
 have H:=Bk.new (w) #[.int .u32 a,.int .i64 p,.slice A n c,.int .i64 sh,.int .i64 wo,.int .i64 qu,.int .i64 tr] 27
 replace H:=H.alloc (.cells #[.int .i64 k,.int .u32 (X:Int),.slice B m d] 30)
 replace hL:=hL.below (below_alloc _ (.cells #[.int .i64 k,.int .u32 (X:Int),.slice B m d] 30))
 replace h:=h.below (below_alloc _ (.cells #[.int .i64 k,.int .u32 (X:Int),.slice B m d] 30))
 replace hs:=hs.below (below_alloc _ (.cells #[.int .i64 k,.int .u32 (X:Int),.slice B m d] 30))
 replace K:=Below.then_ K (below_alloc _ (.cells #[.int .i64 k,.int .u32 (X:Int),.slice B m d] 30))
 have G:=Bk.new ((w).alloc (.cells #[.int .u32 a,.int .i64 p,.slice A n c,.int .i64 sh,.int .i64 wo,.int .i64 qu,.int .i64 tr] 27)) #[.int .i64 k,.int .u32 (X:Int),.slice B m d] 30
 try simp only [World.size_alloc] at H G
 generalize ((w).alloc (.cells #[.int .u32 a,.int .i64 p,.slice A n c,.int .i64 sh,.int .i64 wo,.int .i64 qu,.int .i64 tr] 27)).alloc (.cells #[.int .i64 k,.int .u32 (X:Int),.slice B m d] 30)=w1 at H G hL h hs K ⊢
 generalize w.heap.size+1=gG at H G ⊢
 generalize w.heap.size=gH at H G ⊢
 have hN:=W32.nm (k:=k) hX hw
 replace hw:=Lib.hid hw
 have G_0:=G.at_ (v:=.int .i64 k) 0 rfl
 have G_1:=G.at_ (v:=.int .u32 (X:Int)) 1 rfl
 have G_2:=G.at_ (v:=.slice B m d) 2 rfl
 have G_z:=G.lt
 by_cases hk:1≤k∧k≤7
 ·have T:=known_yes hk w1
  by_cases h4:k=4
  ·subst h4
   have hl:=Lib.hid hs.len
   have mc:=hs.cap
   have mm:=hs.most
   unfold maxLen at mm
   by_cases m0:m=0
   ·subst m0
    go_wp2_with fail
    refine T.mono ?_
    rintro e ww ⟨rfl,rfl⟩
    go_wp2_with fail
    refine (sized_is (n:=0) szE_none _).mono ?_
    rintro e ww ⟨rfl,rfl⟩
    go_wp2
    go_ret
    exact ⟨ret_int (by unfold askE;rw [if_pos hk,if_pos ⟨rfl,hl.out⟩]),K⟩
   ·by_cases m1:64<m
    ·have S:=szE_much m1
     go_wp2_with fail
     refine T.mono ?_
     rintro e ww ⟨rfl,rfl⟩
     go_wp2_with fail
     refine (sized_is S _).mono ?_
     rintro e ww ⟨rfl,rfl⟩
     go_wp2
     go_ret
     exact ⟨ret_int (askE_much (by have:=hl.out;omega)).symm,K⟩
    ·have S:=szE_ok m0 (by omega)
     go_wp2_with fail
     refine T.mono ?_
     rintro e ww ⟨rfl,rfl⟩
     go_wp2_with fail
     refine (sized_is S _).mono ?_
     rintro e ww ⟨rfl,rfl⟩
     clear T S
     clear G_0 G_1 G_2 G_z
     go_wp2_with fail
     refine wp_region_held_drew (S:=fun w'=>Below ww.heap.size ww w') (by kernel_rfl) (Below.refl _ _).drew (fun hHeld=>?_)
     refine ty 0 20 ?_ rfl ?_ hHeld ?_
     rotate_left
     ·intro ww hSw
      try dsimp only at hSw
      have H_0:=(H.below hSw).at_ (v:=.int .u32 a) 0 rfl
      have H_1:=(H.below hSw).at_ (v:=.int .i64 p) 1 rfl
      have H_2:=(H.below hSw).at_ (v:=.slice A n c) 2 rfl
      have H_3:=(H.below hSw).at_ (v:=.int .i64 sh) 3 rfl
      have H_4:=(H.below hSw).at_ (v:=.int .i64 wo) 4 rfl
      have H_5:=(H.below hSw).at_ (v:=.int .i64 qu) 5 rfl
      have H_6:=(H.below hSw).at_ (v:=.int .i64 tr) 6 rfl
      have G_0:=(G.below hSw).at_ (v:=.int .i64 4) 0 rfl
      have G_1:=(G.below hSw).at_ (v:=.int .u32 (X:Int)) 1 rfl
      have G_2:=(G.below hSw).at_ (v:=.slice B m d) 2 rfl
      go_simp
      try with_reducible rfl
      try omega
     refine ty 1 21 ?_ rfl ?_ hHeld ?_
     rotate_left
     ·intro ww hSw
      try dsimp only at hSw
      have H_0:=(H.below hSw).at_ (v:=.int .u32 a) 0 rfl
      have H_1:=(H.below hSw).at_ (v:=.int .i64 p) 1 rfl
      have H_2:=(H.below hSw).at_ (v:=.slice A n c) 2 rfl
      have H_3:=(H.below hSw).at_ (v:=.int .i64 sh) 3 rfl
      have H_4:=(H.below hSw).at_ (v:=.int .i64 wo) 4 rfl
      have H_5:=(H.below hSw).at_ (v:=.int .i64 qu) 5 rfl
      have H_6:=(H.below hSw).at_ (v:=.int .i64 tr) 6 rfl
      have G_0:=(G.below hSw).at_ (v:=.int .i64 4) 0 rfl
      have G_1:=(G.below hSw).at_ (v:=.int .u32 (X:Int)) 1 rfl
      have G_2:=(G.below hSw).at_ (v:=.slice B m d) 2 rfl
      go_simp
      try with_reducible rfl
      try omega
     refine rd 2 22 rfl fun K0 hK=>?_
     go_simp
     refine (names_any (k:=4) (x:=X) (hL.below hHeld) (hs.below hHeld) hm).mono ?_
     rintro e ww ⟨NA,Nn,Nc,rfl,R,K'⟩
     have Nb:Nn≤60000:=by have:=R.len;have:=nmI_len (k:=4) (x:=(X:Int)) (ys:=ys) (n:=60000) (by have:=hs.len;omega) (by omega);omega
     have Ka:=Below.then_ hHeld K'
     refine hK.out _ _ (Below.then_ hHeld K') ?_
     clear hHeld K' hK K0
     intro hHeld
     try simp only [Act.put,sA,sZ,sS]
     refine rd 3 23 rfl fun K0 hK=>?_
     go_simp
     refine (each_any ha hM (h.below Ka) hn R.is Nb hN).mono ?_
     rintro e ww ⟨rfl,K'⟩
     refine hK.out _ _ (Below.then_ hHeld K') ?_
     clear hHeld K' hK K0
     intro hHeld
     try simp only [Act.put,sA,sZ,sS]
     refine tz 4 4 rfl hHeld ?_
     refine wpAnyH_done (by kernel_rfl) ?_ _
     replace H:=H.below hHeld
     replace G:=G.below hHeld
     replace hL:=hL.below hHeld
     replace h:=h.below hHeld
     replace hs:=hs.below hHeld
     replace K:=Below.then_ K hHeld
     clear hHeld
     go_wp2
     go_ret
     exact ⟨ret_int (by rw [askE_batch (by have:=hl.out;omega) (by have:=hl.out;omega),nmI_all]),K⟩
  ·have e4:(k == 4)=false:=by simp [h4]
   go_wp2_with fail
   refine T.mono ?_
   rintro e ww ⟨rfl,rfl⟩
   clear T
   go_wp2_with fail
   clear G_0 G_1 G_2 G_z
   refine wp_region_held_drew (S:=fun w'=>Below ww.heap.size ww w') (by kernel_rfl) (Below.refl _ _).drew (fun hHeld=>?_)
   refine ty 0 20 ?_ rfl ?_ hHeld ?_
   rotate_left
   ·intro ww hSw
    try dsimp only at hSw
    have H_0:=(H.below hSw).at_ (v:=.int .u32 a) 0 rfl
    have H_1:=(H.below hSw).at_ (v:=.int .i64 p) 1 rfl
    have H_2:=(H.below hSw).at_ (v:=.slice A n c) 2 rfl
    have H_3:=(H.below hSw).at_ (v:=.int .i64 sh) 3 rfl
    have H_4:=(H.below hSw).at_ (v:=.int .i64 wo) 4 rfl
    have H_5:=(H.below hSw).at_ (v:=.int .i64 qu) 5 rfl
    have H_6:=(H.below hSw).at_ (v:=.int .i64 tr) 6 rfl
    have G_0:=(G.below hSw).at_ (v:=.int .i64 k) 0 rfl
    have G_1:=(G.below hSw).at_ (v:=.int .u32 (X:Int)) 1 rfl
    have G_2:=(G.below hSw).at_ (v:=.slice B m d) 2 rfl
    go_simp
    try with_reducible rfl
    try omega
   refine ty 1 21 ?_ rfl ?_ hHeld ?_
   rotate_left
   ·intro ww hSw
    try dsimp only at hSw
    have H_0:=(H.below hSw).at_ (v:=.int .u32 a) 0 rfl
    have H_1:=(H.below hSw).at_ (v:=.int .i64 p) 1 rfl
    have H_2:=(H.below hSw).at_ (v:=.slice A n c) 2 rfl
    have H_3:=(H.below hSw).at_ (v:=.int .i64 sh) 3 rfl
    have H_4:=(H.below hSw).at_ (v:=.int .i64 wo) 4 rfl
    have H_5:=(H.below hSw).at_ (v:=.int .i64 qu) 5 rfl
    have H_6:=(H.below hSw).at_ (v:=.int .i64 tr) 6 rfl
    have G_0:=(G.below hSw).at_ (v:=.int .i64 k) 0 rfl
    have G_1:=(G.below hSw).at_ (v:=.int .u32 (X:Int)) 1 rfl
    have G_2:=(G.below hSw).at_ (v:=.slice B m d) 2 rfl
    go_simp
    try with_reducible rfl
    try omega
   refine rd 2 22 rfl fun K0 hK=>?_
   go_simp
   refine (names_any (k:=k) (x:=X) (hL.below hHeld) (hs.below hHeld) hm).mono ?_
   rintro e ww ⟨NA,Nn,Nc,rfl,R,K'⟩
   have Nb:Nn≤60000:=by have:=R.len;have:=nmI_len (k:=k) (x:=(X:Int)) (ys:=ys) (n:=60000) (by have:=hs.len;omega) (by omega);omega
   have Ka:=Below.then_ hHeld K'
   refine hK.out _ _ (Below.then_ hHeld K') ?_
   clear hHeld K' hK K0
   intro hHeld
   try simp only [Act.put,sA,sZ,sS]
   refine rd 3 23 rfl fun K0 hK=>?_
   go_simp
   refine (each_any ha hM (h.below Ka) hn R.is Nb hN).mono ?_
   rintro e ww ⟨rfl,K'⟩
   refine hK.out _ _ (Below.then_ hHeld K') ?_
   clear hHeld K' hK K0
   intro hHeld
   try simp only [Act.put,sA,sZ,sS]
   refine tz 4 4 rfl hHeld ?_
   refine wpAnyH_done (by kernel_rfl) ?_ _
   replace H:=H.below hHeld
   replace G:=G.below hHeld
   replace hL:=hL.below hHeld
   replace h:=h.below hHeld
   replace hs:=hs.below hHeld
   replace K:=Below.then_ K hHeld
   clear hHeld
   go_wp2
   go_ret
   exact ⟨ret_int (by unfold askE;rw [if_pos hk,if_neg (fun g=>h4 g.1),if_neg (fun g=>h4 g.1)]),K⟩
 ·have T:=known_no hk w1
  go_wp2_with fail
  refine T.mono ?_
  rintro e ww ⟨rfl,rfl⟩
  go_wp2
  go_ret
  exact ⟨ret_int (by unfold askE;rw [if_neg hk]),K⟩
end
end Go.Proofs.YtfhefofkhmkcnaaGreatDoor

/-
 Requests looked at by the document's definition: the same error as the program's;nothing that was there is otherwise. Conditions: at most 60000 addresses.
-/
namespace Go.Proofs.YtfhefofkhmkcnaaGreatDoor
set_option maxRecDepth 100000
set_option maxRecDepth 100000
open Go.RowKit
set_option maxHeartbeats 8000000
section
variable {w:World} {lo lo2 a M m d X:Nat} {p sh wo qu tr k:Int} {A B:Option Addr} {n c:Nat} {zs ys:List Int}
theorem rcheck_any (hM:Much a p M) (h:IS .i64 lo w A n c zs) (hn:n≤65536) (hs:IS .u32 lo2 w B m d ys) (hm:m≤60000) (hX:X<4294967296) (hw:W32 ys) :
  Calls Tryz.prog 20 #[.agg #[.int .u32 a,.int .i64 p,.slice A n c,.int .i64 sh,.int .i64 wo,.int .i64 qu,.int .i64 tr],.agg #[.int .i64 k,.int .u32 (X:Int),.slice B m d]] w fun e w'=>e=.returned (.int .i64 (askE a M zs k X ys))∧Below w.heap.size w w':=by
 have K:=Below.refl w.heap.size w
 go_enter Tryz.func20,Tryz.ntmps20
 go_upto_region 1 with (fail)
 replace h:=h.below (below_alloc _ (.cells #[.int .u32 a,.int .i64 p,.slice A n c,.int .i64 sh,.int .i64 wo,.int .i64 qu,.int .i64 tr] 27))
 replace hs:=hs.below (below_alloc _ (.cells #[.int .u32 a,.int .i64 p,.slice A n c,.int .i64 sh,.int .i64 wo,.int .i64 qu,.int .i64 tr] 27))
 replace K:=Below.then_ K (below_alloc _ (.cells #[.int .u32 a,.int .i64 p,.slice A n c,.int .i64 sh,.int .i64 wo,.int .i64 qu,.int .i64 tr] 27))
 have H:=Bk.new (w) #[.int .u32 a,.int .i64 p,.slice A n c,.int .i64 sh,.int .i64 wo,.int .i64 qu,.int .i64 tr] 27
 replace H:=H.alloc (.cells #[.int .i64 k,.int .u32 (X:Int),.slice B m d] 30)
 replace h:=h.below (below_alloc _ (.cells #[.int .i64 k,.int .u32 (X:Int),.slice B m d] 30))
 replace hs:=hs.below (below_alloc _ (.cells #[.int .i64 k,.int .u32 (X:Int),.slice B m d] 30))
 replace K:=Below.then_ K (below_alloc _ (.cells #[.int .i64 k,.int .u32 (X:Int),.slice B m d] 30))
 have G:=Bk.new ((w).alloc (.cells #[.int .u32 a,.int .i64 p,.slice A n c,.int .i64 sh,.int .i64 wo,.int .i64 qu,.int .i64 tr] 27)) #[.int .i64 k,.int .u32 (X:Int),.slice B m d] 30
 try simp only [World.size_alloc] at H G
 generalize ((w).alloc (.cells #[.int .u32 a,.int .i64 p,.slice A n c,.int .i64 sh,.int .i64 wo,.int .i64 qu,.int .i64 tr] 27)).alloc (.cells #[.int .i64 k,.int .u32 (X:Int),.slice B m d] 30)=w1 at H G h hs K ⊢
 generalize w.heap.size+1=gG at H G ⊢
 generalize w.heap.size=gH at H G ⊢
 have hN:=W32.nm (k:=k) hX hw
 replace hw:=Lib.hid hw
 have hl:=Lib.hid hs.len
 have mc:=hs.cap
 have mm:=hs.most
 unfold maxLen at mm
 have G_0:=G.at_ (v:=.int .i64 k) 0 rfl
 have G_1:=G.at_ (v:=.int .u32 (X:Int)) 1 rfl
 have G_2:=G.at_ (v:=.slice B m d) 2 rfl
 have G_z:=G.lt
 by_cases k1:k<1
 ·go_wp2
  go_ret
  exact ⟨ret_int (by unfold askE;rw [if_neg (by omega)]),K⟩
 by_cases k7:7<k
 ·go_wp2
  go_ret
  exact ⟨ret_int (by unfold askE;rw [if_neg (by omega)]),K⟩
 by_cases b0:k=4∧m=0
 ·obtain ⟨rfl,rfl⟩:=b0
  go_wp2
  go_ret
  exact ⟨ret_int (by unfold askE;rw [if_pos (by omega),if_pos ⟨rfl,hl.out⟩]),K⟩
 by_cases b1:k=4∧64<m
 ·obtain ⟨rfl,b1⟩:=b1
  have e0:((m:Int) == 0)=false:=by simp;omega
  go_wp2
  go_ret
  exact ⟨ret_int (askE_much (by have:=hl.out;omega)).symm,K⟩
 have hA:askE a M zs k X ys=chk a M zs [] (nmI k X ys):=by
  have:=hl.out
  unfold askE;rw [if_pos (by omega),if_neg (by omega),if_neg (by omega)]
 replace hA:=Lib.hid hA
 have T:=Lib.hid (rnames_any (k:=k) (x:=X) hs hm)
 have key:((k == 4)=true∧((m:Int) == 0)=false∧decide ((64:Int)<(m:Int))=false)∨(k == 4)=false:=by
  by_cases g:k=4
  ·exact .inl ⟨by simp [g],by simp;omega,by simp;omega⟩
  ·exact .inr (by simp [g])
 have e1:decide (k<1)=false:=by simp;omega
 have e7:decide (7<k)=false:=by simp;omega
 have hlen:=nmI_len (k:=k) (x:=(X:Int)) (ys:=ys) (n:=60000) (by have:=hl.out;omega) (by omega)
 generalize nmI k X ys=qs at T hlen hN hA
 replace hlen:=Lib.hid hlen
 replace hN:=Lib.hid hN
 clear b0 b1 k1 k7
 rcases key with ⟨e4,e0,e64⟩ | e4
 all_goals
  go_wp2_with fail
  refine T.out.mono ?_
  rintro e w2 ⟨NA,Nn,Nc,rfl,R,K'⟩
  clear T G_0 G_1 G_2 G_z
  clear hs
  clear G
  replace H:=H.below K'
  replace h:=h.below K'
  replace K:=Below.then_ K K'
  clear K'
  replace R:=R.is
  have hnl:=R.len
  have hNn:Nn≤60000:=by have:=hlen.out;omega
  replace hnl:=Lib.hid hnl
  go_wp2
  go_loopw [6] (fun i wr=>∃ k:Nat,k≤Nn∧i=.int .i64 k∧Below w2.heap.size w2 wr∧Hid (Left_ a M zs qs k)) (fun i _=>Nn - (intOf i).toNat)
  case atStart=>exact ⟨0,Nat.zero_le _,rfl,Below.refl _ _,Lib.hid (Left_.start _ _ _ _)⟩
  case round =>
   obtain ⟨k,hk,rfl,Kr,L⟩:=hrel
   by_cases hlt:k<Nn
   ·obtain ⟨y,hy,hyb⟩:=hN.out.at_ (k:=k) (by have:=hnl.out;omega)
    obtain ⟨b,o,rfl,hbl,hc⟩:=(R.below Kr).get hlt
    rw [hy] at hc
    replace H:=H.below Kr
    replace h:=h.below Kr
    have hkl:k<qs.length:=by have:=hnl.out;omega
    replace hkl:=Lib.hid hkl
    have T:=fun w5 (K5:Below wr.heap.size wr w5)=>Lib.hid (rfind_any (sh:=sh) (wo:=wo) (qu:=qu) (tr:=tr) (w:=w5) y hyb hM (h.below K5) hn)
    have hfE:fiE a M (gi qs k).toNat zs=fiE a M y zs:=by rw [hy];rfl
    generalize fiE a M y zs=E at T hfE
    generalize fiO a M y zs=F at T
    replace hfE:=Lib.hid hfE
    replace hy:=Lib.hid hy
    go_wp2_with fail
    refine wp_region_held_drew (S:=fun w'=>Below wr.heap.size wr w') (by kernel_rfl) (Below.refl _ _).drew (fun hHeld=>?_)
    refine ty 0 45 ?_ rfl ?_ hHeld ?_
    rotate_left
    ·intro ww hSw
     try dsimp only at hSw
     have H_0:=(H.below hSw).at_ (v:=.int .u32 a) 0 rfl
     have H_1:=(H.below hSw).at_ (v:=.int .i64 p) 1 rfl
     have H_2:=(H.below hSw).at_ (v:=.slice A n c) 2 rfl
     have H_3:=(H.below hSw).at_ (v:=.int .i64 sh) 3 rfl
     have H_4:=(H.below hSw).at_ (v:=.int .i64 wo) 4 rfl
     have H_5:=(H.below hSw).at_ (v:=.int .i64 qu) 5 rfl
     have H_6:=(H.below hSw).at_ (v:=.int .i64 tr) 6 rfl
     have hc_:=(hSw.cell (p:=⟨b,o+k,none⟩) hbl).trans hc
     go_simp
     try with_reducible rfl
     try omega
    refine tz 1 46 rfl hHeld ?_
    refine tz 2 47 rfl hHeld ?_
    refine tz 3 48 rfl hHeld ?_
    refine ty 4 49 ?_ rfl ?_ hHeld ?_
    rotate_left
    ·intro ww hSw
     try dsimp only at hSw
     have H_0:=(H.below hSw).at_ (v:=.int .u32 a) 0 rfl
     have H_1:=(H.below hSw).at_ (v:=.int .i64 p) 1 rfl
     have H_2:=(H.below hSw).at_ (v:=.slice A n c) 2 rfl
     have H_3:=(H.below hSw).at_ (v:=.int .i64 sh) 3 rfl
     have H_4:=(H.below hSw).at_ (v:=.int .i64 wo) 4 rfl
     have H_5:=(H.below hSw).at_ (v:=.int .i64 qu) 5 rfl
     have H_6:=(H.below hSw).at_ (v:=.int .i64 tr) 6 rfl
     have hc_:=(hSw.cell (p:=⟨b,o+k,none⟩) hbl).trans hc
     go_simp
     try with_reducible rfl
     try omega
    refine rd 5 50 rfl fun K0 hK=>?_
    go_simp
    refine ((T _ hHeld).out).mono ?_
    rintro e ww ⟨rfl,K'⟩
    refine hK.out _ _ (Below.then_ hHeld K') ?_
    clear hHeld K' hK K0
    intro hHeld
    try simp only [Act.put,sA,sZ,sS]
    refine tz 6 44 rfl hHeld ?_
    refine tz 7 51 rfl hHeld ?_
    refine tz 8 52 rfl hHeld ?_
    refine tz 9 7 rfl hHeld ?_
    refine tz 10 8 rfl hHeld ?_
    refine wpAnyH_done (by kernel_rfl) ?_ _
    have K9:=hHeld
    clear hHeld T
    have Kq:=Kr.trans (K9.mono Kr.size)
    by_cases hE:E=0
    ·subst hE
     go_wp2
     clear hc H
     go_loopw [9] (fun v wr2=>∃ j:Nat,j≤k∧v=.int .i64 j∧Below w2.heap.size w2 wr2∧Hid (∀ i,i<j→gi qs i≠gi qs k)) (fun v _=>k - (intOf v).toNat)
     case atStart=>exact ⟨0,Nat.zero_le _,rfl,Kq,Lib.hid (fun i hi=>absurd hi (by omega))⟩
     case round =>
      obtain ⟨j,hj,rfl,Kj,N⟩:=hrel
      by_cases hjk:j<k
      ·have c1:=(R.below Kj).here (j:=j) (by omega)
       have c2:=(R.below Kj).here hlt
       by_cases hx:gi qs j=gi qs k
       ·have e1:(gi qs j == gi qs k)=true:=by simp [hx]
        have hx:=Lib.hid hx
        go_wp2
        go_quiet (fail)
        go_wp2
        go_ret
        exact ⟨ret_int (hA.out.trans (L.out.twice hkl.out hfE.out hjk hx.out)).symm,Below.then_ K (below_drewN Kj _)⟩
       ·have e1:(gi qs j == gi qs k)=false:=by simp [hx]
        have hx:=Lib.hid hx
        go_wp2
        go_quiet (fail)
        go_wp2
        go_roundw
        case rel =>
         refine ⟨j+1,by omega,by go_num,below_drewN Kj _,Lib.hid (fun i hi=>?_)⟩
         rcases Nat.lt_or_ge i j with g | g
         ·exact N.out i g
         ·obtain rfl:i=j:=by omega
          exact hx.out
        case measure=>simp [intOf];omega
      ·go_wp2
       go_roundw
       case rel=>exact ⟨k+1,by omega,by go_num,Kj,Lib.hid (L.out.step hkl.out hfE.out (fun i hi=>N.out i (by omega)))⟩
       case measure=>simp [intOf];omega
    ·have e9:(E != 0)=true:=by simp [hE]
     replace hE:=Lib.hid hE
     go_wp2
     go_ret
     exact ⟨ret_int (hA.out.trans (L.out.bad hkl.out hfE.out hE.out)).symm,Below.then_ K Kq⟩
   ·go_wp2
    go_ret
    exact ⟨ret_int (hA.out.trans (L.out.end_ (by have:=hnl.out;omega))).symm,Below.then_ K Kr⟩
end
end Go.Proofs.YtfhefofkhmkcnaaGreatDoor

/-
 What the steps of an exact grant,or a question,answer,as propositions. No program in it.
-/
namespace Go.Proofs.YtfhefofkhmkcnaaGreatDoor
set_option maxRecDepth 100000
set_option maxRecDepth 100000
set_option maxRecDepth 100000
open Go.RowKit
set_option maxHeartbeats 8000000
set_option linter.unusedVariables false
/-- What the program's step answers: cells in new memory or those that were handed in, an operation with lists of its own, whether it took effect. -/
def RetX (s:Sc) (l:Ls) (m:Nat) (ys:List Nat) (b:Bool) (B0:Option Addr) (w:World) (e:Ending) (w':World):Prop :=
 ∃ h' B d,e=.returned (.tuple #[.slice B m d,.agg (opv h' s),.bool b])∧US w' B m d ys∧Lists w.heap.size w' h' l∧(∀ k,k<w.heap.size→Apart k B0→Apart k B)∧Below w.heap.size w w'
/-- What beginning answers: an operation whose list of the request's is that which came in, or a new one. -/
def RetXB (s:Sc) (xs:List Int) (h0:Hd) (w:World) (e:Ending) (w':World):Prop:=∃ h',e=.returned (.agg (opv h' s))∧Lists 0 w' h' ⟨xs,[],[],[]⟩∧SAo h0 h' w∧Below w.heap.size w w'
end Go.Proofs.YtfhefofkhmkcnaaGreatDoor

/-
 What the steps that an exact grant is made of answer of it,and two operations of one kind held beside each other. Conditions: a block that may be,as many cells as there are.
-/
namespace Go.Proofs.YtfhefofkhmkcnaaGreatDoor
set_option maxRecDepth 100000
set_option maxRecDepth 100000
set_option maxRecDepth 100000
open Go.RowKit
set_option maxHeartbeats 8000000
set_option linter.unusedVariables false
theorem row_w32 {W:World} {A:Option Addr} {n c:Nat} {z:List Int} (h:IsRow .u32 W A n c z):∃ ys,IS .u32 0 W A n c ys∧W32 ys:=by
 obtain ⟨ys,hI,hw⟩:=IS.of_row h
 refine ⟨ys,hI,fun y hy=>?_⟩
 obtain ⟨Y,e,hY⟩:=wf_u32 (hw y hy)
 omega
theorem fi_in {a M X:Nat} {zs:List Int} (h:fiE a M X zs=0):∃ o,X=a+o∧o<M∧hasB zs (o:Int)=false:=by
 unfold fiE at h
 split at h
 ·rename_i hr
  split at h
  ·omega
  ·rename_i hh
   exact ⟨X - a,by omega,by omega,by simpa using hh⟩
 ·omega
section
variable {w w1:World} {lo lo2 a m d M ns N o n0 c0:Nat} {p wo qu tr:Int} {A B A0:Option Addr} {n c:Nat} {zs xs:List Int} {ys:List Nat} {h h':Hd} {s:Sc}
theorem gx_claim (ha:a<4294967296) (hM:Much a p M) (hE:EI a M zs o s) (hY:YI M zs ys) (hU:US w B m d ys) (hL:Lists lo w h ⟨xs,[],[],[]⟩) (hx:xs.length≤65536) (hph:s.phase=3) :
  Calls Tryz.prog 118 #[.agg #[.int .u32 (a:Int),.int .i64 p,.slice A n c,.int .i64 (ns:Int),.int .i64 wo,.int .i64 qu,.int .i64 tr],.slice B m d,.agg (opv h s)] w (RetX (eS a M ys s) ⟨xs,[],[],[]⟩ m (gC M ys s) (eB ys s) B w):=by
 obtain ⟨z0,z1,z2,z3⟩:=hL.emp_
 simp only [List.length_nil] at z1 z2 z3
 dsimp only at z0
 have hml:=hU.len
 have hyl:=hY.len
 have hlv:=lv_le hM.most
 have htv:=tv_le hM.most
 have hle:=hE.le
 have hoM:=hE.oM
 obtain ⟨e1,e2,e3⟩:=es_claim (a:=a) (M:=M) (ys:=ys) hph
 rw [e1,e2,e3,hE.fl]
 have R:=cstep_claim (w:=w) (a:=a) (p:=p) (sh:=(ns:Int)) (wo:=wo) (qu:=qu) (tr:=tr) (A:=A) (n:=n) (c:=c) (xs:=xs) ha hM hL.i0 (by omega) (fun h4=>absurd h4 hE.k4) hL (by omega) (by omega) (by omega) hU (by omega) hE.lf (by omega) hE.bt (by omega) (by omega) hE.wd hph
 rw [claimS_no hE.k4] at R
 refine R.mono ?_
 rintro e w' ⟨A0,c0,A1,n1,c1,A2,n2,c2,A3,n3,c3,B',d',rfl,U,L',hA,K⟩
 exact ⟨_,_,_,rfl,U,L',hA,K⟩
theorem gx_mark (ha:a<4294967296) (hM:Much a p M) (hE:EI a M zs o s) (hY:YI M zs ys) (hU:US w B m d ys) (hL:Lists lo w h ⟨xs,[],[],[]⟩) (hx:xs.length≤65536) (hph:s.phase=4∨s.phase=5) :
  Calls Tryz.prog 122 #[.agg #[.int .u32 (a:Int),.int .i64 p,.slice A n c,.int .i64 (ns:Int),.int .i64 wo,.int .i64 qu,.int .i64 tr],.slice B m d,.agg (opv h s)] w fun e w'=>∃ h' B' d',e=.returned (.tuple #[.slice B' m d',.agg (opv h' (eS a M ys s))])∧US w' B' m d' (gC M ys s)∧Lists w.heap.size w' h' ⟨xs,[],[],[]⟩∧(∀ k,k<w.heap.size→Apart k B→Apart k B')∧Below w.heap.size w w':=by
 obtain ⟨z0,z1,z2,z3⟩:=hL.emp_
 simp only [List.length_nil] at z1 z2 z3
 dsimp only at z0
 have hml:=hU.len
 have hyl:=hY.len
 have hle:=hE.le
 obtain ⟨e1,e2,_⟩:=es_mark (a:=a) (M:=M) (ys:=ys) hph
 rw [e1,e2]
 have hk4:=hE.k4
 obtain ⟨oM,hh,kd,lf,bt',it,wd,ph⟩:=hE
 have hat:s.at_=0∨s.at_=1:=by
  rcases ph with ⟨h,_⟩ | ⟨h,_⟩ | ⟨_,_,q3,q4,_⟩ | ⟨h,_⟩
  ·omega
  ·omega
  ·exact q4
  ·omega
 have R:=step_any (w:=w) (a:=a) (p:=p) (sh:=(ns:Int)) (wo:=wo) (qu:=qu) (tr:=tr) (A:=A) (n:=n) (c:=c) (xs:=xs) ha hM (by omega) hL.i0 (fun h4=>absurd h4 hk4) hL (by omega) (by omega) (by omega) hU (by omega) lf hle hat hph wd
 rw [stO_no hk4] at R
 refine R.mono ?_
 rintro e w' ⟨A0,c0,A1,c1,A2,c2,A3,c3,B',d',rfl,U,L',hA,K⟩
 exact ⟨_,_,_,rfl,U,L',hA,K⟩
theorem xsame_any {lo':Nat} (L:Lists lo w h ⟨xs,[],[],[]⟩) (L':Lists lo' w h' ⟨xs,[],[],[]⟩) (hx:xs.length≤65536) :
  Calls Tryz.prog 22 #[.agg (opv h s),.agg (opv h' s)] w (RetBo true w):=by
 obtain ⟨a0,a1,a2,a3⟩:=L.emp_
 obtain ⟨b0,b1,b2,b3⟩:=L'.emp_
 rcases h with ⟨A0,n0,c0,A1,n1,c1,A2,n2,c2,A3,n3,c3⟩
 rcases h' with ⟨B0,m0,e0,B1,m1,e1,B2,m2,e2,B3,m3,e3⟩
 dsimp only [List.length_nil] at a0 a1 a2 a3 b0 b1 b2 b3
 subst a0 a1 a2 a3 b0 b1 b2 b3
 exact sameop_any (xs:=xs) (L.i0.lower (Nat.zero_le _)) (L'.i0.lower (Nat.zero_le _)) L L' (fun x hx=>by cases hx) (by omega) (by omega) (by omega) (by omega)
end
end Go.Proofs.YtfhefofkhmkcnaaGreatDoor

/-
 What lodger/exact.Begin and .Step answer. Conditions: a block that may be,a request that is right,as many cells as there are.
-/
namespace Go.Proofs.YtfhefofkhmkcnaaGreatDoor
set_option maxRecDepth 100000
set_option maxRecDepth 100000
set_option maxRecDepth 100000
open Go.RowKit
set_option maxHeartbeats 8000000
set_option linter.unusedVariables false
theorem op2_info:(Tryz.prog.info? 196).map (·.size)=some 20:=by kernel_rfl
theorem op2_sz {h:Hd} {s:Sc}:(Tryz.prog.info? 196).map (·.size)=some (opv h s).size:=by rw [opv_size];exact op2_info
/-- What a step's function answers: RetX over lists that lie from lo on. -/
def RetXL (lo:Nat) (s:Sc) (l:Ls) (m:Nat) (ys:List Nat) (b:Bool) (B0:Option Addr) (w:World) (e:Ending) (w':World):Prop :=
 ∃ h' B d,e=.returned (.tuple #[.slice B m d,.agg (opv h' s),.bool b])∧US w' B m d ys∧Lists lo w' h' l∧(∀ k,k<w.heap.size→Apart k B0→Apart k B)∧Below w.heap.size w w'
theorem ownx {w:World} {lo:Nat} {h:Hd} {s:Sc} {l:Ls} (L:Lists lo w h l) (h0:h.n0≤65536) (h1:h.n1≤65536) (h2:h.n2≤65536) (h3:h.n3≤65536) :
  Calls Tryz.prog 39 #[.agg (opv h s)] w fun e w'=>∃ h3,e=.returned (.agg (opv h3 s))∧Lists w.heap.size w' h3 l∧Below w.heap.size w w' :=
 (own_any L h0 h1 h2 h3).mono fun e w' ⟨_,_,_,_,_,_,_,_,e1,L',K⟩=>⟨_,e1,L',K⟩
section
variable {w w1:World} {lo lo2 a m d M ns N o lf b X f n0 c0:Nat} {p wo qu tr kd:Int} {A B A0:Option Addr} {n c:Nat} {zs xs:List Int} {ys:List Nat} {h:Hd} {l:Ls} {s:Sc}
theorem xbegin_any (ha:a<4294967296) (hM:Much a p M) (hX:X<4294967296) (hx:X=a+o) (hoM:o<M) (hI:IS .u32 lo2 w A0 n0 c0 xs) (hn0:n0≤65536) :
  Calls Tryz.prog 172 #[.agg #[.int .u32 (a:Int),.int .i64 p,.slice A n c,.int .i64 (ns:Int),.int .i64 wo,.int .i64 qu,.int .i64 tr],.agg #[.int .i64 kd,.int .u32 (X:Int),.slice A0 n0 c0]] w (RetXB (eS0 kd (X:Int) o) xs ⟨A0,n0,c0,none,0,0,none,0,0,none,0,0⟩ w):=by
 have hm9:=hM.most
 obtain ⟨lf,hlf⟩:∃ y,y=o/32:=⟨_,rfl⟩
 obtain ⟨b,hb⟩:∃ y,y=o%32:=⟨_,rfl⟩
 have hS:eS0 kd (X:Int) o=⟨kd,(X:Int),0,0,false,8,0,0,(lf:Int),(b:Int),0,false,0,0,0,0⟩:=by unfold eS0;rw [← hlf,← hb]
 rw [hS]
 clear hS
 have TO:=fun w=>Lib.hid (by have R:=offset_in (w:=w) (p:=p) X hX ha hM (by omega) (by omega);rw [show X - a=o by omega] at R;exact R)
 have TL:=fun w=>Lib.hid (leaf_any o (by omega) w)
 rw [← hlf,← hb] at TL
 have hL0:Lists 0 w ⟨A0,n0,c0,none,0,0,none,0,0,none,0,0⟩ ⟨xs,[],[],[]⟩:=⟨hI.lower (Nat.zero_le _),IS.none_ _ _ _,IS.none_ _ _ _,IS.none_ _ _ _⟩
 have TOwn:=fun w (L:Lists 0 w ⟨A0,n0,c0,none,0,0,none,0,0,none,0,0⟩ ⟨xs,[],[],[]⟩)=>Lib.hid (ownx (s:=⟨kd,(X:Int),0,0,false,8,0,0,(lf:Int),(b:Int),0,false,0,0,0,0⟩) L hn0 (Nat.zero_le _) (Nat.zero_le _) (Nat.zero_le _))
 clear hlf hb hx hoM hm9 hM hX
 go_enter Tryz.func172,Tryz.ntmps172
 go_upto_region 1 with (fail)
 have L:=Loc.start w
 generalize hal:World.alloc _ _=w1
 replace L:=L.a3 hal
 clear hal
 replace L:=L.is0 (opv hd0 sc0) rfl
 generalize w.heap.size+1+1=gR at L ⊢
 generalize w.heap.size+1=gQ at L ⊢
 generalize w.heap.size=gH at L ⊢
 have H_0:=L.at_ 2 0 rfl (v:=.int .u32 (a:Int)) rfl
 have H_1:=L.at_ 2 1 rfl (v:=.int .i64 p) rfl
 have Q_1:=L.at_ 1 1 rfl (v:=.int .u32 (X:Int)) rfl
 have H_z:=L.lt 2 rfl
 have Q_z:=L.lt 1 rfl
 go_wp2_with fail
 refine ((TO _).out).mono ?_
 rintro e w2 ⟨rfl,K'⟩
 clear H_0 H_1 Q_1 H_z Q_z
 replace L:=L.over K'
 go_wp2_with fail
 refine ((TL _).out).mono ?_
 rintro e w' ⟨rfl,rfl⟩
 go_wp2_with (refine wpList_load_row rfl 30 (.tmp 3) rfl gQ rfl _ _ (0,0) _ (L.bk_ 1 rfl) Tryz.underlying30 rfl ak_sz ?_)
 have KS:=L.K.size
 refine ((TOwn _ (hL0.below L.K)).out).mono ?_
 rintro e w3 ⟨h3,rfl,L',K'⟩
 have Lb:=L.lts
 replace L:=L.over K'
 replace L:=L.lists Lb L'
 clear Lb
 try dsimp only [lF,List.cons_append,List.nil_append] at L
 clear L'
 go_wp2_with (refine sO 4 26 (L.bk_ 0 rfl) rfl rfl ?_)
 generalize hal:World.setRow _ _ _=w4
 replace L:=L.rr0 hal
 clear hal
 refine eC Tryz.results172 (L.bk_ 0 rfl) ?_
 exact ⟨_,rfl,(L.lists_at (l:=⟨xs,[],[],[]⟩) 0 rfl).lower_ (Nat.zero_le _),sao_new (L.lists_at (l:=⟨xs,[],[],[]⟩) 0 rfl) KS,L.K⟩
theorem xph8 (hph:s.phase=8) :
  Calls Tryz.prog 174 #[.agg (opv h s)] w fun e w'=>e=.returned (.func (.func 175) #[.agg (opv h s)] #[])∧Below w.heap.size w w':=by
 have e0:=hph
 rcases s with ⟨kind,addr,err,aad,used,phase,shard,sought,leaf,bit,word,full,at_,tries,item,stamp⟩
 rcases h with ⟨A0,n0,c0,A1,n1,c1,A2,n2,c2,A3,n3,c3⟩
 try dsimp only at *
 subst hph
 clear e0
 go_enter Tryz.func174,Tryz.ntmps174
 go_upto_region 1 with (fail)
 have L:=Loc.start w
 replace L:=(L).alloc (opv ⟨A0,n0,c0,A1,n1,c1,A2,n2,c2,A3,n3,c3⟩ ⟨kind,addr,err,aad,used,8,shard,sought,leaf,bit,word,full,at_,tries,item,stamp⟩) 196
 try simp only [World.size_alloc] at L
 try dsimp only [nput] at L
 generalize (w).alloc (.cells (opv ⟨A0,n0,c0,A1,n1,c1,A2,n2,c2,A3,n3,c3⟩ ⟨kind,addr,err,aad,used,8,shard,sought,leaf,bit,word,full,at_,tries,item,stamp⟩) 196)=w1 at L ⊢
 generalize w.heap.size=gO at L ⊢
 have O_8:=L.at_ 0 8 rfl (v:=.int .i64 8) rfl
 have O_z:=L.lt 0 rfl
 go_wp2_with (refine wpList_load_row rfl 196 (.tmp 1) rfl gO rfl _ _ (0,0) _ (L.bk_ 0 rfl) Tryz.underlying196 rfl op2_sz ?_)
 clear O_8 O_z
 go_ret
 exact ⟨rfl,L.K⟩
theorem xph3 (hph:s.phase=3) :
  Calls Tryz.prog 174 #[.agg (opv h s)] w fun e w'=>e=.returned (.func (.func 176) #[.agg (opv h s)] #[])∧Below w.heap.size w w':=by
 have e0:=hph
 rcases s with ⟨kind,addr,err,aad,used,phase,shard,sought,leaf,bit,word,full,at_,tries,item,stamp⟩
 rcases h with ⟨A0,n0,c0,A1,n1,c1,A2,n2,c2,A3,n3,c3⟩
 try dsimp only at *
 subst hph
 clear e0
 go_enter Tryz.func174,Tryz.ntmps174
 go_upto_region 1 with (fail)
 have L:=Loc.start w
 replace L:=(L).alloc (opv ⟨A0,n0,c0,A1,n1,c1,A2,n2,c2,A3,n3,c3⟩ ⟨kind,addr,err,aad,used,3,shard,sought,leaf,bit,word,full,at_,tries,item,stamp⟩) 196
 try simp only [World.size_alloc] at L
 try dsimp only [nput] at L
 generalize (w).alloc (.cells (opv ⟨A0,n0,c0,A1,n1,c1,A2,n2,c2,A3,n3,c3⟩ ⟨kind,addr,err,aad,used,3,shard,sought,leaf,bit,word,full,at_,tries,item,stamp⟩) 196)=w1 at L ⊢
 generalize w.heap.size=gO at L ⊢
 have O_8:=L.at_ 0 8 rfl (v:=.int .i64 3) rfl
 have O_z:=L.lt 0 rfl
 go_wp2_with (refine wpList_load_row rfl 196 (.tmp 1) rfl gO rfl _ _ (0,0) _ (L.bk_ 0 rfl) Tryz.underlying196 rfl op2_sz ?_)
 clear O_8 O_z
 go_ret
 exact ⟨rfl,L.K⟩
theorem xph4 (hph:s.phase=4) :
  Calls Tryz.prog 174 #[.agg (opv h s)] w fun e w'=>e=.returned (.func (.func 177) #[.agg (opv h s)] #[])∧Below w.heap.size w w':=by
 have e0:=hph
 rcases s with ⟨kind,addr,err,aad,used,phase,shard,sought,leaf,bit,word,full,at_,tries,item,stamp⟩
 rcases h with ⟨A0,n0,c0,A1,n1,c1,A2,n2,c2,A3,n3,c3⟩
 try dsimp only at *
 subst hph
 clear e0
 go_enter Tryz.func174,Tryz.ntmps174
 go_upto_region 1 with (fail)
 have L:=Loc.start w
 replace L:=(L).alloc (opv ⟨A0,n0,c0,A1,n1,c1,A2,n2,c2,A3,n3,c3⟩ ⟨kind,addr,err,aad,used,4,shard,sought,leaf,bit,word,full,at_,tries,item,stamp⟩) 196
 try simp only [World.size_alloc] at L
 try dsimp only [nput] at L
 generalize (w).alloc (.cells (opv ⟨A0,n0,c0,A1,n1,c1,A2,n2,c2,A3,n3,c3⟩ ⟨kind,addr,err,aad,used,4,shard,sought,leaf,bit,word,full,at_,tries,item,stamp⟩) 196)=w1 at L ⊢
 generalize w.heap.size=gO at L ⊢
 have O_8:=L.at_ 0 8 rfl (v:=.int .i64 4) rfl
 have O_z:=L.lt 0 rfl
 go_wp2_with (refine wpList_load_row rfl 196 (.tmp 1) rfl gO rfl _ _ (0,0) _ (L.bk_ 0 rfl) Tryz.underlying196 rfl op2_sz ?_)
 clear O_8 O_z
 go_ret
 exact ⟨rfl,L.K⟩
theorem xph5 (hph:s.phase=5) :
  Calls Tryz.prog 174 #[.agg (opv h s)] w fun e w'=>e=.returned (.func (.func 177) #[.agg (opv h s)] #[])∧Below w.heap.size w w':=by
 have e0:=hph
 rcases s with ⟨kind,addr,err,aad,used,phase,shard,sought,leaf,bit,word,full,at_,tries,item,stamp⟩
 rcases h with ⟨A0,n0,c0,A1,n1,c1,A2,n2,c2,A3,n3,c3⟩
 try dsimp only at *
 subst hph
 clear e0
 go_enter Tryz.func174,Tryz.ntmps174
 go_upto_region 1 with (fail)
 have L:=Loc.start w
 replace L:=(L).alloc (opv ⟨A0,n0,c0,A1,n1,c1,A2,n2,c2,A3,n3,c3⟩ ⟨kind,addr,err,aad,used,5,shard,sought,leaf,bit,word,full,at_,tries,item,stamp⟩) 196
 try simp only [World.size_alloc] at L
 try dsimp only [nput] at L
 generalize (w).alloc (.cells (opv ⟨A0,n0,c0,A1,n1,c1,A2,n2,c2,A3,n3,c3⟩ ⟨kind,addr,err,aad,used,5,shard,sought,leaf,bit,word,full,at_,tries,item,stamp⟩) 196)=w1 at L ⊢
 generalize w.heap.size=gO at L ⊢
 have O_8:=L.at_ 0 8 rfl (v:=.int .i64 5) rfl
 have O_z:=L.lt 0 rfl
 go_wp2_with (refine wpList_load_row rfl 196 (.tmp 1) rfl gO rfl _ _ (0,0) _ (L.bk_ 0 rfl) Tryz.underlying196 rfl op2_sz ?_)
 clear O_8 O_z
 go_ret
 exact ⟨rfl,L.K⟩
theorem xph0 (hph:s.phase=0) :
  Calls Tryz.prog 174 #[.agg (opv h s)] w fun e w'=>e=.returned (.func (.func 178) #[.agg (opv h s)] #[])∧Below w.heap.size w w':=by
 have e0:=hph
 rcases s with ⟨kind,addr,err,aad,used,phase,shard,sought,leaf,bit,word,full,at_,tries,item,stamp⟩
 rcases h with ⟨A0,n0,c0,A1,n1,c1,A2,n2,c2,A3,n3,c3⟩
 try dsimp only at *
 subst hph
 clear e0
 go_enter Tryz.func174,Tryz.ntmps174
 go_upto_region 1 with (fail)
 have L:=Loc.start w
 replace L:=(L).alloc (opv ⟨A0,n0,c0,A1,n1,c1,A2,n2,c2,A3,n3,c3⟩ ⟨kind,addr,err,aad,used,0,shard,sought,leaf,bit,word,full,at_,tries,item,stamp⟩) 196
 try simp only [World.size_alloc] at L
 try dsimp only [nput] at L
 generalize (w).alloc (.cells (opv ⟨A0,n0,c0,A1,n1,c1,A2,n2,c2,A3,n3,c3⟩ ⟨kind,addr,err,aad,used,0,shard,sought,leaf,bit,word,full,at_,tries,item,stamp⟩) 196)=w1 at L ⊢
 generalize w.heap.size=gO at L ⊢
 have O_8:=L.at_ 0 8 rfl (v:=.int .i64 0) rfl
 have O_z:=L.lt 0 rfl
 go_wp2_with (refine wpList_load_row rfl 196 (.tmp 1) rfl gO rfl _ _ (0,0) _ (L.bk_ 0 rfl) Tryz.underlying196 rfl op2_sz ?_)
 clear O_8 O_z
 go_ret
 exact ⟨rfl,L.K⟩
theorem xf_claim (ha:a<4294967296) (hM:Much a p M) (hE:EI a M zs o s) (hY:YI M zs ys) (hU:US w B m d ys) (hL:Lists lo w h ⟨xs,[],[],[]⟩) (hx:xs.length≤65536) (hlo:lo≤w.heap.size) (hph:s.phase=3) :
  Calls Tryz.prog 176 #[.agg (opv h s),.agg #[.int .u32 (a:Int),.int .i64 p,.slice A n c,.int .i64 (ns:Int),.int .i64 wo,.int .i64 qu,.int .i64 tr],.slice B m d] w (RetXL lo (eS a M ys s) ⟨xs,[],[],[]⟩ m (gC M ys s) (eB ys s) B w):=by
 have hm0:0<m:=by have:=hU.len;have:=hY.len;omega
 obtain ⟨s2,hs2⟩:∃ s2,s2=eS a M ys s:=⟨_,rfl⟩
 obtain ⟨y2,hy2⟩:∃ y2,y2=gC M ys s:=⟨_,rfl⟩
 obtain ⟨b2,hb2⟩:∃ b2,b2=eB ys s:=⟨_,rfl⟩
 have TK:=fun w h (U:US w B m d ys) (L:Lists lo w h ⟨xs,[],[],[]⟩)=>Lib.hid (gx_claim (w:=w) (h:=h) (s:=s) (ns:=ns) (wo:=wo) (qu:=qu) (tr:=tr) (A:=A) (n:=n) (c:=c) ha hM hE hY U L hx hph)
 simp only [← hs2,← hy2,← hb2] at TK ⊢
 clear hE hY hs2 hy2 hb2 ha hM
 go_enter Tryz.func176,Tryz.ntmps176
 go_upto_region 1 with (fail)
 have L:=Loc.start w
 generalize hal:World.alloc _ _=w1
 replace L:=L.a3 hal
 clear hal
 replace L:=L.is0 (opv hd0 sc0) rfl
 generalize w.heap.size+1+1=gR at L ⊢
 generalize w.heap.size+1=gH at L ⊢
 generalize w.heap.size=gO at L ⊢
 go_wp2_with (first | (refine lC 4 (L.bk_ 1 rfl) ?_) | (refine wpList_load_row rfl 196 (.tmp 3) rfl gO rfl _ _ (0,0) _ (L.bk_ 2 rfl) Tryz.underlying196 rfl op2_sz ?_))
 have KS:=L.K.size
 refine ((TK _ _ (hU.below L.K) (hL.below L.K)).out).mono ?_
 rintro e w2 ⟨h3,B2,d2,rfl,U,L',hA,K'⟩
 have Lb:=L.lts
 replace L:=L.over K'
 replace L:=L.us_av (fun i b e=>hA b.1 (Lb i b e) (hU.apart0 hm0 L i b e)) U
 replace L:=L.lists Lb L'
 clear Lb
 try dsimp only [lF,List.cons_append,List.nil_append] at L
 clear U L'
 go_wp2_with (refine sO 7 14 (L.bk_ 0 rfl) rfl rfl ?_)
 generalize hal:World.setRow _ _ _=w3
 replace L:=L.rr0 hal
 clear hal
 refine eTCT Tryz.results176 (.slice B2 m d2) (.bool b2) (L.bk_ 0 rfl) ?_
 exact ⟨_,_,_,rfl,L.us_ 4 rfl,(L.lists_at (l:=⟨xs,[],[],[]⟩) 0 rfl).lower_ (Nat.le_trans hlo KS),fun k hk=>hA k (Nat.lt_of_lt_of_le hk KS),L.K⟩
theorem xf_mark (ha:a<4294967296) (hM:Much a p M) (hE:EI a M zs o s) (hY:YI M zs ys) (hU:US w B m d ys) (hL:Lists lo w h ⟨xs,[],[],[]⟩) (hx:xs.length≤65536) (hlo:lo≤w.heap.size) (hph:s.phase=4∨s.phase=5) :
  Calls Tryz.prog 177 #[.agg (opv h s),.agg #[.int .u32 (a:Int),.int .i64 p,.slice A n c,.int .i64 (ns:Int),.int .i64 wo,.int .i64 qu,.int .i64 tr],.slice B m d] w (RetXL lo (eS a M ys s) ⟨xs,[],[],[]⟩ m (gC M ys s) (eB ys s) B w):=by
 have hm0:0<m:=by have:=hU.len;have:=hY.len;omega
 obtain ⟨s2,hs2⟩:∃ s2,s2=eS a M ys s:=⟨_,rfl⟩
 obtain ⟨y2,hy2⟩:∃ y2,y2=gC M ys s:=⟨_,rfl⟩
 obtain ⟨b2,hb2⟩:∃ b2,b2=eB ys s:=⟨_,rfl⟩
 have TK:=fun w h (U:US w B m d ys) (L:Lists lo w h ⟨xs,[],[],[]⟩)=>Lib.hid (gx_mark (w:=w) (h:=h) (s:=s) (ns:=ns) (wo:=wo) (qu:=qu) (tr:=tr) (A:=A) (n:=n) (c:=c) ha hM hE hY U L hx hph)
 rw [← hb2]
 rw [show b2=false from hb2.trans (es_mark (a:=a) (M:=M) (ys:=ys) hph).2.2]
 simp only [← hs2,← hy2] at TK ⊢
 clear hE hY hs2 hy2 hb2 ha hM
 go_enter Tryz.func177,Tryz.ntmps177
 go_upto_region 1 with (fail)
 have L:=Loc.start w
 generalize hal:World.alloc _ _=w1
 replace L:=L.a3 hal
 clear hal
 replace L:=L.is0 (opv hd0 sc0) rfl
 generalize w.heap.size+1+1=gR at L ⊢
 generalize w.heap.size+1=gH at L ⊢
 generalize w.heap.size=gO at L ⊢
 go_wp2_with (first | (refine lC 4 (L.bk_ 1 rfl) ?_) | (refine wpList_load_row rfl 196 (.tmp 3) rfl gO rfl _ _ (0,0) _ (L.bk_ 2 rfl) Tryz.underlying196 rfl op2_sz ?_))
 have KS:=L.K.size
 refine ((TK _ _ (hU.below L.K) (hL.below L.K)).out).mono ?_
 rintro e w2 ⟨h3,B2,d2,rfl,U,L',hA,K'⟩
 have Lb:=L.lts
 replace L:=L.over K'
 replace L:=L.us_av (fun i b e=>hA b.1 (Lb i b e) (hU.apart0 hm0 L i b e)) U
 replace L:=L.lists Lb L'
 clear Lb
 try dsimp only [lF,List.cons_append,List.nil_append] at L
 clear U L'
 go_upto_region 2 with (refine wpList_store_row rfl 43 (.tmp 10) (.tmp 17) rfl _ _ rfl (show _=Value.agg (opv h3 s2) from rfl) _ _ (Bk.new _ _ _) op_sz rfl (opv_one _ _) ?_)
 try rw [World.setRow_alloc_new]
 replace L:=(L).alloc (opv h3 s2) 43
 try simp only [World.size_alloc] at L
 try dsimp only [nput] at L
 generalize (w2).alloc (.cells (opv h3 s2) 43)=w3 at L ⊢
 generalize w2.heap.size=gP at L ⊢
 replace L:=L.drew
 refine wp_region_held_drew (S:=fun w'=>∃ v_R:Array Value,v_R.size=20∧Loc w w' [(gP,43,opv h3 s2),(gR,43,v_R),(gH,27,#[.int .u32 (a:Int),.int .i64 p,.slice A n c,.int .i64 (ns:Int),.int .i64 wo,.int .i64 qu,.int .i64 tr]),(gO,196,opv h s)] [iF .u32 w1.heap.size h3.A0 h3.n0 h3.c0 xs,iF .u32 w1.heap.size h3.A1 h3.n1 h3.c1 [],iF .i64 w1.heap.size h3.A2 h3.n2 h3.c2 [],iF .u64 w1.heap.size h3.A3 h3.n3 h3.c3 [],uF B2 m d2 y2]) (by kernel_rfl) (⟨_,rfl,L⟩) (fun hHeld=>?_)
 generalize w3.drew=v4 at hHeld L ⊢
 refine tg 0 18 (.slice B2 m d2) rfl hHeld ?_
 refine tl 1 19 (.agg (opv h3 s2)) rfl (yieldsIf_load_row (by rfl) 43 (.tmp 10) rfl gP rfl 43 _ (0,0) _ (fun _ hS=>((hS.choose_spec.2).bk_ 0 rfl)) Tryz.underlying43 rfl op_sz) hHeld ?_
 refine tg 2 6 (.slice B2 m d2) rfl hHeld ?_
 refine rn 3 rfl fun K0 hK=>?_
 rw [if_pos (by rfl)]
 refine wp_store_row 43 (.tmp 7) (.tmp 19) rfl gR _ rfl rfl _ _ (L.bk_ 1 rfl) op_sz rfl (opv_one _ _) ?_
 replace L:=L.row 1 rfl (opv h3 s2)
 try dsimp only [nput] at L
 refine hK.out _ _ ⟨_,rfl,L⟩ ?_
 clear hHeld hK K0
 intro hHeld
 generalize v4.setRow gR (opv h3 s2)=v5 at hHeld L ⊢
 try simp only [Act.put]
 refine tg 4 8 (.bool false) rfl hHeld ?_
 refine wpAnyH_done (by kernel_rfl) ?_ _
 clear hHeld
 go_wp2
 refine eTCT Tryz.results177 (.slice B2 m d2) (.bool false) (L.bk_ 1 rfl) ?_
 exact ⟨_,_,_,rfl,L.us_ 4 rfl,(L.lists_at (l:=⟨xs,[],[],[]⟩) 0 rfl).lower_ (Nat.le_trans hlo KS),fun k hk=>hA k (Nat.lt_of_lt_of_le hk KS),L.K⟩
theorem xf_stay (ha:a<4294967296) (hM:Much a p M) (hE:EI a M zs o s) (hY:YI M zs ys) (hU:US w B m d ys) (hL:Lists lo w h ⟨xs,[],[],[]⟩) (hx:xs.length≤65536) (hlo:lo≤w.heap.size) (hph:s.phase=0) :
  Calls Tryz.prog 178 #[.agg (opv h s),.agg #[.int .u32 (a:Int),.int .i64 p,.slice A n c,.int .i64 (ns:Int),.int .i64 wo,.int .i64 qu,.int .i64 tr],.slice B m d] w (RetXL lo (eS a M ys s) ⟨xs,[],[],[]⟩ m (gC M ys s) (eB ys s) B w):=by
 obtain ⟨e1,e2,e3⟩:=es_done (a:=a) (M:=M) (ys:=ys) hph
 rw [e1,e2,e3]
 clear e1 e2 e3 hE hY ha hM
 go_enter Tryz.func178,Tryz.ntmps178
 go_upto_region 1 with (fail)
 have L:=Loc.start w
 generalize hal:World.alloc _ _=w1
 replace L:=L.a3 hal
 clear hal
 replace L:=L.is0 (opv hd0 sc0) rfl
 generalize w.heap.size+1+1=gR at L ⊢
 generalize w.heap.size+1=gH at L ⊢
 generalize w.heap.size=gO at L ⊢
 replace L:=L.drew
 refine wp_region_held_drew (S:=fun w'=>∃ v_R:Array Value,v_R.size=20∧Loc w w' [(gR,43,v_R),(gH,27,#[.int .u32 (a:Int),.int .i64 p,.slice A n c,.int .i64 (ns:Int),.int .i64 wo,.int .i64 qu,.int .i64 tr]),(gO,196,opv h s)] []) (by kernel_rfl) (⟨_,rfl,L⟩) (fun hHeld=>?_)
 generalize w1.drew=v2 at hHeld L ⊢
 refine tg 0 9 (.slice B m d) rfl hHeld ?_
 refine tl 1 10 (.agg (opv h s)) rfl (yieldsIf_load_row (by rfl) 196 (.tmp 3) rfl gO rfl 196 _ (0,0) _ (fun _ hS=>((hS.choose_spec.2).bk_ 2 rfl)) Tryz.underlying196 rfl op2_sz) hHeld ?_
 refine tg 2 6 (.slice B m d) rfl hHeld ?_
 refine rn 3 rfl fun K0 hK=>?_
 rw [if_pos (by rfl)]
 refine wp_store_row 43 (.tmp 7) (.tmp 10) rfl gR _ rfl rfl _ _ (L.bk_ 0 rfl) op_sz rfl (opv_one _ _) ?_
 replace L:=L.row 0 rfl (opv h s)
 try dsimp only [nput] at L
 refine hK.out _ _ ⟨_,rfl,L⟩ ?_
 clear hHeld hK K0
 intro hHeld
 generalize v2.setRow gR (opv h s)=v3 at hHeld L ⊢
 try simp only [Act.put]
 refine tg 4 8 (.bool false) rfl hHeld ?_
 refine wpAnyH_done (by kernel_rfl) ?_ _
 clear hHeld
 go_wp2
 refine eTCT Tryz.results178 (.slice B m d) (.bool false) (L.bk_ 0 rfl) ?_
 exact ⟨_,_,_,rfl,hU.below L.K,hL.below L.K,fun k _ h=>h,L.K⟩
theorem xf_take (ha:a<4294967296) (hM:Much a p M) (hE:EI a M zs o s) (hY:YI M zs ys) (hU:US w B m d ys) (hL:Lists lo w h ⟨xs,[],[],[]⟩) (hx:xs.length≤65536) (hlo:lo≤w.heap.size) (hph:s.phase=8) (hk:s.kind=2) (hbit:(gt ys (o/32)).testBit (o%32)=false) :
  Calls Tryz.prog 175 #[.agg (opv h s),.agg #[.int .u32 (a:Int),.int .i64 p,.slice A n c,.int .i64 (ns:Int),.int .i64 wo,.int .i64 qu,.int .i64 tr],.slice B m d] w (RetXL lo (eS a M ys s) ⟨xs,[],[],[]⟩ m (gC M ys s) (eB ys s) B w):=by
 have hml:=hU.len
 have hyl:=hY.len
 have hle:=hE.le
 have hlf:=hE.lf
 have hbt:=hE.bt
 have gl9:=hE.fl
 have fb':=hE.fb
 have hx64:=gt_lt hU.fit (o/32)
 have TLd:=fun w (U:US w B m d ys)=>Lib.hid (by have R:=load_any U ((o/32:Nat):Int);rw [ldI_nat] at R;exact R)
 have TUs:=fun w=>Lib.hid (used_any (gt ys (o/32)) (o%32) hx64 (by omega) w)
 rw [hbit] at TUs
 obtain ⟨e1,e2⟩:=es_read (a:=a) (M:=M) (ys:=ys) hph
 obtain ⟨x,hx2⟩:∃ x,x=gt ys (o/32):=⟨_,rfl⟩
 have e4:eB ys s=false:=by unfold eB;rw [if_pos hph,gl9,fb',hk,hbit];rfl
 have e5:xkS (gt ys s.leaf.toNat) s=tkS s x:=by unfold xkS;rw [gl9,fb',if_pos hk,hbit,if_neg Bool.false_ne_true,hx2]
 rw [e1,e2,e4,e5]
 clear e1 e2 e4 e5
 simp only [← hx2] at TLd TUs
 obtain ⟨lf,hlf2⟩:∃ y,y=o/32:=⟨_,rfl⟩
 obtain ⟨b,hb2⟩:∃ y,y=o%32:=⟨_,rfl⟩
 rw [← hlf2] at hlf
 simp only [← hlf2] at TLd
 rw [← hb2] at hbt
 simp only [← hb2] at TUs
 clear hx2 hlf2 hb2 hE hY hyl hx64 gl9 fb' ha hM hle hml hbit
 rcases s with ⟨kind,addr,err,aad,used,phase,shard,sought,leaf,bit,word,full,at_,tries,item,stamp⟩
 rcases h with ⟨A0,n0,c0,A1,n1,c1,A2,n2,c2,A3,n3,c3⟩
 try dsimp only at *
 subst hph hk hlf hbt
 go_enter Tryz.func175,Tryz.ntmps175
 go_upto_region 1 with (fail)
 have L:=Loc.start w
 generalize hal:World.alloc _ _=w1
 replace L:=L.a3 hal
 clear hal
 replace L:=L.is0 (opv hd0 sc0) rfl
 generalize w.heap.size+1+1=gR at L ⊢
 generalize w.heap.size+1=gH at L ⊢
 generalize w.heap.size=gO at L ⊢
 have O_11:=L.at_ 2 11 rfl (v:=.int .i64 (lf:Int)) rfl
 have O_z:=L.lt 2 rfl
 go_wp2_with fail
 refine ((TLd _ (hU.below L.K)).out).mono ?_
 rintro e w' ⟨rfl,rfl⟩
 clear O_11 O_z
 have O_12:=L.at_ 2 12 rfl (v:=.int .i64 (b:Int)) rfl
 have O_z:=L.lt 2 rfl
 go_wp2_with fail
 refine ((TUs _).out).mono ?_
 rintro e w' ⟨rfl,rfl⟩
 clear O_12 O_z
 have O_0:=L.at_ 2 0 rfl (v:=.int .i64 2) rfl
 have O_13:=L.at_ 2 13 rfl (v:=.int .u64 ((word:Nat):Int)) rfl
 have O_8:=L.at_ 2 8 rfl (v:=.int .i64 8) rfl
 have O_z:=L.lt 2 rfl
 have O_f13:=L.fz 2 13 rfl
 have O_f8:=L.fz 2 8 rfl
 go_upto_region 8 with fail
 clear O_0 O_13 O_8 O_z O_f13 O_f8
 replace L:=(((L.set 2 13 rfl (.int .u64 ((x:Nat):Int))).set 2 8 rfl (.int .i64 3)).is 2 (opv ⟨A0,n0,c0,A1,n1,c1,A2,n2,c2,A3,n3,c3⟩ ⟨2,addr,err,aad,used,3,shard,sought,(lf:Int),(b:Int),x,full,at_,tries,item,stamp⟩) rfl)
 try dsimp only [nput] at L
 generalize ((w1).setCell ⟨gO,13,none⟩ (.int .u64 ((x:Nat):Int))).setCell ⟨gO,8,none⟩ (.int .i64 3)=w2 at L ⊢
 replace L:=L.drew
 refine wp_region_held_drew (S:=fun w'=>∃ v_R:Array Value,v_R.size=20∧Loc w w' [(gR,43,v_R),(gH,27,#[.int .u32 (a:Int),.int .i64 p,.slice A n c,.int .i64 (ns:Int),.int .i64 wo,.int .i64 qu,.int .i64 tr]),(gO,196,opv ⟨A0,n0,c0,A1,n1,c1,A2,n2,c2,A3,n3,c3⟩ ⟨2,addr,err,aad,used,3,shard,sought,(lf:Int),(b:Int),x,full,at_,tries,item,stamp⟩)] []) (by kernel_rfl) (⟨_,rfl,L⟩) (fun hHeld=>?_)
 generalize w2.drew=v3 at hHeld L ⊢
 refine tg 0 36 (.slice B m d) rfl hHeld ?_
 refine tl 1 37 (.agg (opv ⟨A0,n0,c0,A1,n1,c1,A2,n2,c2,A3,n3,c3⟩ ⟨2,addr,err,aad,used,3,shard,sought,(lf:Int),(b:Int),x,full,at_,tries,item,stamp⟩)) rfl (yieldsIf_load_row (by rfl) 196 (.tmp 3) rfl gO rfl 196 _ (0,0) _ (fun _ hS=>((hS.choose_spec.2).bk_ 2 rfl)) Tryz.underlying196 rfl op2_sz) hHeld ?_
 refine tg 2 38 (.pointer (some ⟨gO,8,none⟩)) rfl hHeld ?_
 refine ty 3 39 (.int .i64 3) rfl ?_ hHeld ?_
 ·intro ww hS
  try dsimp only at hS
  have O_8:=(hS.choose_spec.2).at_ 2 8 rfl (v:=.int .i64 3) rfl
  have O_z:=(hS.choose_spec.2).lt 2 rfl
  go_simp
  try with_reducible rfl
  try omega
 refine tg 4 40 (.bool false) rfl hHeld ?_
 refine tg 5 6 (.slice B m d) rfl hHeld ?_
 refine rn 6 rfl fun K0 hK=>?_
 rw [if_pos (by rfl)]
 refine wp_store_row 43 (.tmp 7) (.tmp 37) rfl gR _ rfl rfl _ _ (L.bk_ 0 rfl) op_sz rfl (opv_one _ _) ?_
 replace L:=L.row 0 rfl (opv ⟨A0,n0,c0,A1,n1,c1,A2,n2,c2,A3,n3,c3⟩ ⟨2,addr,err,aad,used,3,shard,sought,(lf:Int),(b:Int),x,full,at_,tries,item,stamp⟩)
 try dsimp only [nput] at L
 refine hK.out _ _ ⟨_,rfl,L⟩ ?_
 clear hHeld hK K0
 intro hHeld
 generalize v3.setRow gR (opv ⟨A0,n0,c0,A1,n1,c1,A2,n2,c2,A3,n3,c3⟩ ⟨2,addr,err,aad,used,3,shard,sought,(lf:Int),(b:Int),x,full,at_,tries,item,stamp⟩)=v4 at hHeld L ⊢
 try simp only [Act.put]
 refine tg 7 8 (.bool false) rfl hHeld ?_
 refine wpAnyH_done (by kernel_rfl) ?_ _
 clear hHeld
 go_wp2
 refine eTCT Tryz.results175 (.slice B m d) (.bool false) (L.bk_ 0 rfl) ?_
 exact ⟨_,_,_,rfl,hU.below L.K,hL.below L.K,fun k _ h=>h,L.K⟩
theorem xf_used (ha:a<4294967296) (hM:Much a p M) (hE:EI a M zs o s) (hY:YI M zs ys) (hU:US w B m d ys) (hL:Lists lo w h ⟨xs,[],[],[]⟩) (hx:xs.length≤65536) (hlo:lo≤w.heap.size) (hph:s.phase=8) (hk:s.kind=2) (hbit:(gt ys (o/32)).testBit (o%32)=true) :
  Calls Tryz.prog 175 #[.agg (opv h s),.agg #[.int .u32 (a:Int),.int .i64 p,.slice A n c,.int .i64 (ns:Int),.int .i64 wo,.int .i64 qu,.int .i64 tr],.slice B m d] w (RetXL lo (eS a M ys s) ⟨xs,[],[],[]⟩ m (gC M ys s) (eB ys s) B w):=by
 have hml:=hU.len
 have hyl:=hY.len
 have hle:=hE.le
 have hlf:=hE.lf
 have hbt:=hE.bt
 have gl9:=hE.fl
 have fb':=hE.fb
 have hx64:=gt_lt hU.fit (o/32)
 have TLd:=fun w (U:US w B m d ys)=>Lib.hid (by have R:=load_any U ((o/32:Nat):Int);rw [ldI_nat] at R;exact R)
 have TUs:=fun w=>Lib.hid (used_any (gt ys (o/32)) (o%32) hx64 (by omega) w)
 rw [hbit] at TUs
 obtain ⟨e1,e2⟩:=es_read (a:=a) (M:=M) (ys:=ys) hph
 obtain ⟨x,hx2⟩:∃ x,x=gt ys (o/32):=⟨_,rfl⟩
 have e4:eB ys s=true:=by unfold eB;rw [if_pos hph,gl9,fb',hk,hbit];rfl
 have e5:xkS (gt ys s.leaf.toNat) s=usdS s:=by unfold xkS;rw [gl9,fb',if_pos hk,hbit,if_pos rfl]
 rw [e1,e2,e4,e5]
 clear e1 e2 e4 e5
 simp only [← hx2] at TLd TUs
 obtain ⟨lf,hlf2⟩:∃ y,y=o/32:=⟨_,rfl⟩
 obtain ⟨b,hb2⟩:∃ y,y=o%32:=⟨_,rfl⟩
 rw [← hlf2] at hlf
 simp only [← hlf2] at TLd
 rw [← hb2] at hbt
 simp only [← hb2] at TUs
 clear hx2 hlf2 hb2 hE hY hyl hx64 gl9 fb' ha hM hle hml hbit
 rcases s with ⟨kind,addr,err,aad,used,phase,shard,sought,leaf,bit,word,full,at_,tries,item,stamp⟩
 rcases h with ⟨A0,n0,c0,A1,n1,c1,A2,n2,c2,A3,n3,c3⟩
 try dsimp only at *
 subst hph hk hlf hbt
 go_enter Tryz.func175,Tryz.ntmps175
 go_upto_region 1 with (fail)
 have L:=Loc.start w
 generalize hal:World.alloc _ _=w1
 replace L:=L.a3 hal
 clear hal
 replace L:=L.is0 (opv hd0 sc0) rfl
 generalize w.heap.size+1+1=gR at L ⊢
 generalize w.heap.size+1=gH at L ⊢
 generalize w.heap.size=gO at L ⊢
 have O_11:=L.at_ 2 11 rfl (v:=.int .i64 (lf:Int)) rfl
 have O_z:=L.lt 2 rfl
 go_wp2_with fail
 refine ((TLd _ (hU.below L.K)).out).mono ?_
 rintro e w' ⟨rfl,rfl⟩
 clear O_11 O_z
 have O_12:=L.at_ 2 12 rfl (v:=.int .i64 (b:Int)) rfl
 have O_z:=L.lt 2 rfl
 go_wp2_with fail
 refine ((TUs _).out).mono ?_
 rintro e w' ⟨rfl,rfl⟩
 clear O_12 O_z
 have O_0:=L.at_ 2 0 rfl (v:=.int .i64 2) rfl
 have O_3:=L.at_ 2 3 rfl (v:=.int .i64 err) rfl
 have O_8:=L.at_ 2 8 rfl (v:=.int .i64 8) rfl
 have O_z:=L.lt 2 rfl
 have O_f3:=L.fz 2 3 rfl
 have O_f8:=L.fz 2 8 rfl
 go_upto_region 8 with fail
 clear O_0 O_3 O_8 O_z O_f3 O_f8
 replace L:=(((L.set 2 3 rfl (.int .i64 5)).set 2 8 rfl (.int .i64 0)).is 2 (opv ⟨A0,n0,c0,A1,n1,c1,A2,n2,c2,A3,n3,c3⟩ ⟨2,addr,5,aad,used,0,shard,sought,(lf:Int),(b:Int),word,full,at_,tries,item,stamp⟩) rfl)
 try dsimp only [nput] at L
 generalize ((w1).setCell ⟨gO,3,none⟩ (.int .i64 5)).setCell ⟨gO,8,none⟩ (.int .i64 0)=w2 at L ⊢
 replace L:=L.drew
 refine wp_region_held_drew (S:=fun w'=>∃ v_R:Array Value,v_R.size=20∧Loc w w' [(gR,43,v_R),(gH,27,#[.int .u32 (a:Int),.int .i64 p,.slice A n c,.int .i64 (ns:Int),.int .i64 wo,.int .i64 qu,.int .i64 tr]),(gO,196,opv ⟨A0,n0,c0,A1,n1,c1,A2,n2,c2,A3,n3,c3⟩ ⟨2,addr,5,aad,used,0,shard,sought,(lf:Int),(b:Int),word,full,at_,tries,item,stamp⟩)] []) (by kernel_rfl) (⟨_,rfl,L⟩) (fun hHeld=>?_)
 generalize w2.drew=v3 at hHeld L ⊢
 refine tg 0 36 (.slice B m d) rfl hHeld ?_
 refine tl 1 37 (.agg (opv ⟨A0,n0,c0,A1,n1,c1,A2,n2,c2,A3,n3,c3⟩ ⟨2,addr,5,aad,used,0,shard,sought,(lf:Int),(b:Int),word,full,at_,tries,item,stamp⟩)) rfl (yieldsIf_load_row (by rfl) 196 (.tmp 3) rfl gO rfl 196 _ (0,0) _ (fun _ hS=>((hS.choose_spec.2).bk_ 2 rfl)) Tryz.underlying196 rfl op2_sz) hHeld ?_
 refine tg 2 38 (.pointer (some ⟨gO,8,none⟩)) rfl hHeld ?_
 refine ty 3 39 (.int .i64 0) rfl ?_ hHeld ?_
 ·intro ww hS
  try dsimp only at hS
  have O_8:=(hS.choose_spec.2).at_ 2 8 rfl (v:=.int .i64 0) rfl
  have O_z:=(hS.choose_spec.2).lt 2 rfl
  go_simp
  try with_reducible rfl
  try omega
 refine tg 4 40 (.bool true) rfl hHeld ?_
 refine tg 5 6 (.slice B m d) rfl hHeld ?_
 refine rn 6 rfl fun K0 hK=>?_
 rw [if_pos (by rfl)]
 refine wp_store_row 43 (.tmp 7) (.tmp 37) rfl gR _ rfl rfl _ _ (L.bk_ 0 rfl) op_sz rfl (opv_one _ _) ?_
 replace L:=L.row 0 rfl (opv ⟨A0,n0,c0,A1,n1,c1,A2,n2,c2,A3,n3,c3⟩ ⟨2,addr,5,aad,used,0,shard,sought,(lf:Int),(b:Int),word,full,at_,tries,item,stamp⟩)
 try dsimp only [nput] at L
 refine hK.out _ _ ⟨_,rfl,L⟩ ?_
 clear hHeld hK K0
 intro hHeld
 generalize v3.setRow gR (opv ⟨A0,n0,c0,A1,n1,c1,A2,n2,c2,A3,n3,c3⟩ ⟨2,addr,5,aad,used,0,shard,sought,(lf:Int),(b:Int),word,full,at_,tries,item,stamp⟩)=v4 at hHeld L ⊢
 try simp only [Act.put]
 refine tg 7 8 (.bool true) rfl hHeld ?_
 refine wpAnyH_done (by kernel_rfl) ?_ _
 clear hHeld
 go_wp2
 refine eTCT Tryz.results175 (.slice B m d) (.bool true) (L.bk_ 0 rfl) ?_
 exact ⟨_,_,_,rfl,hU.below L.K,hL.below L.K,fun k _ h=>h,L.K⟩
theorem xf_ask (ha:a<4294967296) (hM:Much a p M) (hE:EI a M zs o s) (hY:YI M zs ys) (hU:US w B m d ys) (hL:Lists lo w h ⟨xs,[],[],[]⟩) (hx:xs.length≤65536) (hlo:lo≤w.heap.size) (hph:s.phase=8) (hk:s.kind=5) :
  Calls Tryz.prog 175 #[.agg (opv h s),.agg #[.int .u32 (a:Int),.int .i64 p,.slice A n c,.int .i64 (ns:Int),.int .i64 wo,.int .i64 qu,.int .i64 tr],.slice B m d] w (RetXL lo (eS a M ys s) ⟨xs,[],[],[]⟩ m (gC M ys s) (eB ys s) B w):=by
 have hml:=hU.len
 have hyl:=hY.len
 have hle:=hE.le
 have hlf:=hE.lf
 have hbt:=hE.bt
 have gl9:=hE.fl
 have fb':=hE.fb
 have hx64:=gt_lt hU.fit (o/32)
 have TLd:=fun w (U:US w B m d ys)=>Lib.hid (by have R:=load_any U ((o/32:Nat):Int);rw [ldI_nat] at R;exact R)
 have TUs:=fun w=>Lib.hid (used_any (gt ys (o/32)) (o%32) hx64 (by omega) w)
 obtain ⟨bq,hbq⟩:∃ bq,bq=(gt ys (o/32)).testBit (o%32):=⟨_,rfl⟩
 rw [← hbq] at TUs
 obtain ⟨e1,e2⟩:=es_read (a:=a) (M:=M) (ys:=ys) hph
 obtain ⟨x,hx2⟩:∃ x,x=gt ys (o/32):=⟨_,rfl⟩
 have e4:eB ys s=true:=by unfold eB;rw [if_pos hph,gl9,fb',hk];rfl
 have e5:xkS (gt ys s.leaf.toNat) s=qyS s bq:=by unfold xkS;rw [gl9,fb',if_neg (by omega),hbq]
 rw [e1,e2,e4,e5]
 clear e1 e2 e4 e5
 simp only [← hx2] at TLd TUs
 obtain ⟨lf,hlf2⟩:∃ y,y=o/32:=⟨_,rfl⟩
 obtain ⟨b,hb2⟩:∃ y,y=o%32:=⟨_,rfl⟩
 rw [← hlf2] at hlf
 simp only [← hlf2] at TLd
 rw [← hb2] at hbt
 simp only [← hb2] at TUs
 clear hx2 hlf2 hb2 hE hY hyl hx64 gl9 fb' ha hM hle hml hbq
 rcases s with ⟨kind,addr,err,aad,used,phase,shard,sought,leaf,bit,word,full,at_,tries,item,stamp⟩
 rcases h with ⟨A0,n0,c0,A1,n1,c1,A2,n2,c2,A3,n3,c3⟩
 try dsimp only at *
 subst hph hk hlf hbt
 go_enter Tryz.func175,Tryz.ntmps175
 go_upto_region 1 with (fail)
 have L:=Loc.start w
 generalize hal:World.alloc _ _=w1
 replace L:=L.a3 hal
 clear hal
 replace L:=L.is0 (opv hd0 sc0) rfl
 generalize w.heap.size+1+1=gR at L ⊢
 generalize w.heap.size+1=gH at L ⊢
 generalize w.heap.size=gO at L ⊢
 have O_11:=L.at_ 2 11 rfl (v:=.int .i64 (lf:Int)) rfl
 have O_z:=L.lt 2 rfl
 go_wp2_with fail
 refine ((TLd _ (hU.below L.K)).out).mono ?_
 rintro e w' ⟨rfl,rfl⟩
 clear O_11 O_z
 have O_12:=L.at_ 2 12 rfl (v:=.int .i64 (b:Int)) rfl
 have O_z:=L.lt 2 rfl
 go_wp2_with fail
 refine ((TUs _).out).mono ?_
 rintro e w' ⟨rfl,rfl⟩
 clear O_12 O_z
 have O_0:=L.at_ 2 0 rfl (v:=.int .i64 5) rfl
 have O_5:=L.at_ 2 5 rfl (v:=.bool used) rfl
 have O_8:=L.at_ 2 8 rfl (v:=.int .i64 8) rfl
 have O_z:=L.lt 2 rfl
 have O_f5:=L.fz 2 5 rfl
 have O_f8:=L.fz 2 8 rfl
 go_upto_region 8 with fail
 clear O_0 O_5 O_8 O_z O_f5 O_f8
 replace L:=(((L.set 2 5 rfl (.bool bq)).set 2 8 rfl (.int .i64 0)).is 2 (opv ⟨A0,n0,c0,A1,n1,c1,A2,n2,c2,A3,n3,c3⟩ ⟨5,addr,err,aad,bq,0,shard,sought,(lf:Int),(b:Int),word,full,at_,tries,item,stamp⟩) rfl)
 try dsimp only [nput] at L
 generalize ((w1).setCell ⟨gO,5,none⟩ (.bool bq)).setCell ⟨gO,8,none⟩ (.int .i64 0)=w2 at L ⊢
 replace L:=L.drew
 refine wp_region_held_drew (S:=fun w'=>∃ v_R:Array Value,v_R.size=20∧Loc w w' [(gR,43,v_R),(gH,27,#[.int .u32 (a:Int),.int .i64 p,.slice A n c,.int .i64 (ns:Int),.int .i64 wo,.int .i64 qu,.int .i64 tr]),(gO,196,opv ⟨A0,n0,c0,A1,n1,c1,A2,n2,c2,A3,n3,c3⟩ ⟨5,addr,err,aad,bq,0,shard,sought,(lf:Int),(b:Int),word,full,at_,tries,item,stamp⟩)] []) (by kernel_rfl) (⟨_,rfl,L⟩) (fun hHeld=>?_)
 generalize w2.drew=v3 at hHeld L ⊢
 refine tg 0 36 (.slice B m d) rfl hHeld ?_
 refine tl 1 37 (.agg (opv ⟨A0,n0,c0,A1,n1,c1,A2,n2,c2,A3,n3,c3⟩ ⟨5,addr,err,aad,bq,0,shard,sought,(lf:Int),(b:Int),word,full,at_,tries,item,stamp⟩)) rfl (yieldsIf_load_row (by rfl) 196 (.tmp 3) rfl gO rfl 196 _ (0,0) _ (fun _ hS=>((hS.choose_spec.2).bk_ 2 rfl)) Tryz.underlying196 rfl op2_sz) hHeld ?_
 refine tg 2 38 (.pointer (some ⟨gO,8,none⟩)) rfl hHeld ?_
 refine ty 3 39 (.int .i64 0) rfl ?_ hHeld ?_
 ·intro ww hS
  try dsimp only at hS
  have O_8:=(hS.choose_spec.2).at_ 2 8 rfl (v:=.int .i64 0) rfl
  have O_z:=(hS.choose_spec.2).lt 2 rfl
  go_simp
  try with_reducible rfl
  try omega
 refine tg 4 40 (.bool true) rfl hHeld ?_
 refine tg 5 6 (.slice B m d) rfl hHeld ?_
 refine rn 6 rfl fun K0 hK=>?_
 rw [if_pos (by rfl)]
 refine wp_store_row 43 (.tmp 7) (.tmp 37) rfl gR _ rfl rfl _ _ (L.bk_ 0 rfl) op_sz rfl (opv_one _ _) ?_
 replace L:=L.row 0 rfl (opv ⟨A0,n0,c0,A1,n1,c1,A2,n2,c2,A3,n3,c3⟩ ⟨5,addr,err,aad,bq,0,shard,sought,(lf:Int),(b:Int),word,full,at_,tries,item,stamp⟩)
 try dsimp only [nput] at L
 refine hK.out _ _ ⟨_,rfl,L⟩ ?_
 clear hHeld hK K0
 intro hHeld
 generalize v3.setRow gR (opv ⟨A0,n0,c0,A1,n1,c1,A2,n2,c2,A3,n3,c3⟩ ⟨5,addr,err,aad,bq,0,shard,sought,(lf:Int),(b:Int),word,full,at_,tries,item,stamp⟩)=v4 at hHeld L ⊢
 try simp only [Act.put]
 refine tg 7 8 (.bool true) rfl hHeld ?_
 refine wpAnyH_done (by kernel_rfl) ?_ _
 clear hHeld
 go_wp2
 refine eTCT Tryz.results175 (.slice B m d) (.bool true) (L.bk_ 0 rfl) ?_
 exact ⟨_,_,_,rfl,hU.below L.K,hL.below L.K,fun k _ h=>h,L.K⟩
theorem xs_to {s2:Sc} {y2:List Nat} {b2:Bool} (hff:f=175∨f=176∨f=177∨f=178) (hm:0<m) (hU:US w B m d ys) (hL:Lists lo w h l) (h0:h.n0≤65536) (h1:h.n1≤65536) (h2:h.n2≤65536) (h3:h.n3≤65536)
  (TP:∀ w h,Hid (Calls Tryz.prog 174 #[.agg (opv h s)] w fun e w'=>e=.returned (.func (.func f) #[.agg (opv h s)] #[])∧Below w.heap.size w w'))
  (TK:∀ w lo h,lo≤w.heap.size→US w B m d ys→Lists lo w h l→Hid (Calls Tryz.prog f #[.agg (opv h s),.agg #[.int .u32 (a:Int),.int .i64 p,.slice A n c,.int .i64 (ns:Int),.int .i64 wo,.int .i64 qu,.int .i64 tr],.slice B m d] w (RetXL lo s2 l m y2 b2 B w))) :
  Calls Tryz.prog 173 #[.agg #[.int .u32 (a:Int),.int .i64 p,.slice A n c,.int .i64 (ns:Int),.int .i64 wo,.int .i64 qu,.int .i64 tr],.slice B m d,.agg (opv h s)] w (RetX s2 l m y2 b2 B w):=by
 have hm0:0<m:=hm
 have TOwn:=fun w (L:Lists lo w h l)=>Lib.hid (ownx (s:=s) L (by omega) (by omega) (by omega) (by omega))
 go_enter Tryz.func173,Tryz.ntmps173
 go_upto_region 1 with (fail)
 have L:=Loc.start w
 generalize hal:World.alloc _ _=w1
 replace L:=L.a3 hal
 clear hal
 replace L:=L.is0 (opv hd0 sc0) rfl
 generalize w.heap.size+1+1=gR at L ⊢
 generalize w.heap.size+1=gO at L ⊢
 generalize w.heap.size=gH at L ⊢
 go_wp2_with (refine lO 5 (L.bk_ 1 rfl) ?_)
 have KS:=L.K.size
 have LbO:=L.gs
 refine ((TOwn _ (hL.below L.K)).out).mono ?_
 rintro e w2 ⟨h3,rfl,L',K'⟩
 have Lb:=L.lts
 replace L:=L.over K'
 replace L:=L.lists Lb L'
 clear Lb
 try dsimp only [lF,List.cons_append,List.nil_append] at L
 clear L'
 have hlo3:=K'.size
 generalize w1.heap.size=lo3 at L LbO KS hlo3
 go_wp2_with fail
 have KP:=L.K.size
 refine ((TP _ h3).out).mono ?_
 rintro e w3 ⟨rfl,K'⟩
 replace L:=L.over K'
 have hlo4:=Nat.le_trans hlo3 K'.size
 go_upto_region 2 with (fail)
 rcases hff with rfl | rfl | rfl | rfl
 all_goals (
  go_wp2_with (refine lC 3 (L.bk_ 2 rfl) ?_)
  have KS2:=L.K.size
  refine ((TK _ lo3 h3 hlo4 (hU.below L.K) (L.lists_at 0 rfl)).out).mono ?_
  rintro e w4 ⟨h4,B2,d2,rfl,U,L',hA,K'⟩
  have Lb:=L.lts
  replace L:=L.over K'
  replace L:=L.us_av (fun i b e=>hA b.1 (Lb i b e) (hU.apart0 hm0 L i b e)) U
  replace L:=L.lists' LbO L'
  clear Lb
  try dsimp only [lF,List.cons_append,List.nil_append] at L
  clear U L'
  go_wp2_with (refine sO 7 18 (L.bk_ 0 rfl) rfl rfl ?_)
  generalize hal:World.setRow _ _ _=w5
  replace L:=L.rr0 hal
  clear hal
  refine eTCT Tryz.results173 (.slice B2 m d2) (.bool b2) (L.bk_ 0 rfl) ?_
  exact ⟨_,_,_,rfl,L.us_ 4 rfl,(L.lists_at 0 rfl).lower_ KS,fun k hk=>hA k (Nat.lt_of_lt_of_le hk KS2),L.K⟩)
theorem xs_any (ha:a<4294967296) (hM:Much a p M) (hE:EI a M zs o s) (hY:YI M zs ys) (hU:US w B m d ys) (hL:Lists lo w h ⟨xs,[],[],[]⟩) (hx:xs.length≤65536) :
  Calls Tryz.prog 173 #[.agg #[.int .u32 (a:Int),.int .i64 p,.slice A n c,.int .i64 (ns:Int),.int .i64 wo,.int .i64 qu,.int .i64 tr],.slice B m d,.agg (opv h s)] w (RetX (eS a M ys s) ⟨xs,[],[],[]⟩ m (gC M ys s) (eB ys s) B w):=by
 have hm0:0<m:=by have:=hU.len;have:=hY.len;omega
 obtain ⟨z0,z1,z2,z3⟩:=hL.emp_
 simp only [List.length_nil] at z1 z2 z3
 dsimp only at z0
 rcases hE.ph with ⟨q,_⟩ | ⟨q,_⟩ | ⟨q | q,_⟩ | ⟨q,_⟩
 ·refine xs_to (f:=175) (by decide) hm0 hU hL (by omega) (by omega) (by omega) (by omega) (fun w h=>Lib.hid (xph8 q)) (fun w lo h hlo U L=>Lib.hid ?_)
  rcases hE.kd with hk | hk
  ·cases hb:(gt ys (o/32)).testBit (o%32) with
   | false=>exact xf_take ha hM hE hY U L hx hlo q hk hb
   | true=>exact xf_used ha hM hE hY U L hx hlo q hk hb
  ·exact xf_ask ha hM hE hY U L hx hlo q hk
 ·exact xs_to (f:=176) (by decide) hm0 hU hL (by omega) (by omega) (by omega) (by omega) (fun w h=>Lib.hid (xph3 q)) (fun w lo h hlo U L=>Lib.hid (xf_claim ha hM hE hY U L hx hlo q))
 ·exact xs_to (f:=177) (by decide) hm0 hU hL (by omega) (by omega) (by omega) (by omega) (fun w h=>Lib.hid (xph4 q)) (fun w lo h hlo U L=>Lib.hid (xf_mark ha hM hE hY U L hx hlo (.inl q)))
 ·exact xs_to (f:=177) (by decide) hm0 hU hL (by omega) (by omega) (by omega) (by omega) (fun w h=>Lib.hid (xph5 q)) (fun w lo h hlo U L=>Lib.hid (xf_mark ha hM hE hY U L hx hlo (.inr q)))
 ·exact xs_to (f:=178) (by decide) hm0 hU hL (by omega) (by omega) (by omega) (by omega) (fun w h=>Lib.hid (xph0 q)) (fun w lo h hlo U L=>Lib.hid (xf_stay ha hM hE hY U L hx hlo q))
end
end Go.Proofs.YtfhefofkhmkcnaaGreatDoor

/-
 Operations that give back,as functions of numbers;what a step answers while blocks of its caller stand. No program in it.
-/
namespace Go.Proofs.YtfhefofkhmkcnaaGreatDoor
set_option maxRecDepth 100000
set_option maxRecDepth 100000
open Go.RowKit
set_option maxHeartbeats 8000000
set_option linter.unusedVariables false
/-- Told an error: a batch has a list of them, another operation one. -/
def erI (k e x:Int):Int:=if k=4 then e else x
def erS (s:Sc) (x:Int):Sc:=⟨s.kind,s.addr,erI s.kind s.err x,s.aad,s.used,s.phase,s.shard,s.sought,s.leaf,s.bit,s.word,s.full,s.at_,s.tries,s.item,s.stamp⟩
def erE (s:Sc) (es:List Int) (x:Int):List Int:=if s.kind=4 then es ++ [x] else es
def erL (s:Sc) (l:Ls) (x:Int):Ls:=⟨l.rqs,l.ads,erE s l.ers x,l.ses⟩
/-- The bit is used: the word, to be swapped. -/
def useS (s:Sc) (x:Nat):Sc:=⟨s.kind,s.addr,s.err,s.aad,s.used,9,s.shard,s.sought,s.leaf,s.bit,x,s.full,s.at_,s.tries,s.item,s.stamp⟩
/-- The leaf is read again. -/
def rdS (s:Sc):Sc:=⟨s.kind,s.addr,s.err,s.aad,s.used,8,s.shard,s.sought,s.leaf,s.bit,0,s.full,s.at_,s.tries,s.item,s.stamp⟩
/-- The leaf was full. -/
def emS (s:Sc):Sc:=⟨s.kind,s.addr,s.err,s.aad,s.used,4,s.shard,s.sought,s.leaf,s.bit,0,false,0,s.tries,s.item,s.stamp⟩
def freeS (a n:Nat) (xs:List Int) (s:Sc):Sc:=gon a n xs (erS s 6)
def hitS (a n:Nat) (xs:List Int) (s:Sc):Sc:=if fl s.word=true then emS (erS s 0) else gon a n xs (erS s 0)
def erO (s:Sc) (x:Int):Sc:=⟨s.kind,s.addr,x,s.aad,s.used,s.phase,s.shard,s.sought,s.leaf,s.bit,s.word,s.full,s.at_,s.tries,s.item,s.stamp⟩
theorem erS_bat {s:Sc} {x:Int} (h:s.kind=4):erS s x=s:=by unfold erS erI;rw [if_pos h]
theorem erS_one {s:Sc} {x:Int} (h:s.kind≠4):erS s x=erO s x:=by unfold erS erI erO;rw [if_neg h]
theorem erE_bat {s:Sc} {es:List Int} {x:Int} (h:s.kind=4):erE s es x=es ++ [x]:=if_pos h
theorem erE_one {s:Sc} {es:List Int} {x:Int} (h:s.kind≠4):erE s es x=es:=if_neg h
/-- What told answers: the operation, with one error more; the row of the errors is the call's own still. -/
def RetTold (h:Hd) (s:Sc) (es:List Int) (lo gO:Nat) (w0:World) (b0 b1 b2 b3 b5:Bl) (fs:List Fct) (e:Ending) (w':World):Prop :=
 ∃ A2 n2 c2,e=.returned (.agg (opv ⟨h.A0,h.n0,h.c0,h.A1,h.n1,h.c1,A2,n2,c2,h.A3,h.n3,h.c3⟩ s))∧n2≤h.n2+1∧Loc w0 w' [b0,b1,b2,b3,(gO,43,opv ⟨h.A0,h.n0,h.c0,h.A1,h.n1,h.c1,A2,n2,c2,h.A3,h.n3,h.c3⟩ s),b5] (rF .i64 37 lo A2 n2 c2 es :: fs)
/-- What a step function answers, while its caller's blocks stand. -/
def RetLoc (lo:Nat) (n0:Nat) (s:Sc) (l:Ls) (m:Nat) (ys:List Nat) (b:Bool) (B0:Option Addr) (gR gO gH:Nat) (cf:Array Value) (w0 w:World) (e:Ending) (w':World):Prop :=
 ∃ A0 c0 A1 n1 c1 A2 n2 c2 A3 n3 c3 B d z,e=.returned (.tuple #[.slice B m d,.agg (opv ⟨A0,n0,c0,A1,n1,c1,A2,n2,c2,A3,n3,c3⟩ s),.bool b])∧US w' B m d ys∧Lists lo w' ⟨A0,n0,c0,A1,n1,c1,A2,n2,c2,A3,n3,c3⟩ l∧(∀ k,k<w.heap.size→Apart k B0→Apart k B)∧Loc w0 w' [(gR,43,opv hd0 sc0),(gO,43,z),(gH,27,cf)] []
/-- What op.Own answers, the errors as a row of the call's own, apart from the other lists. -/
def RetOwnR (h:Hd) (s:Sc) (l:Ls) (w:World) (e:Ending) (w':World):Prop :=
 ∃ A0 c0 A1 c1 A2 c2 A3 c3,e=.returned (.agg (opv ⟨A0,h.n0,c0,A1,h.n1,c1,A2,h.n2,c2,A3,h.n3,c3⟩ s))∧IS .u32 w.heap.size w' A0 h.n0 c0 l.rqs∧IS .u32 w.heap.size w' A1 h.n1 c1 l.ads∧Ri .i64 37 w' w.heap.size (.slice A2 h.n2 c2) h.n2 l.ers∧IS .u64 w.heap.size w' A3 h.n3 c3 l.ses
  ∧ SepF (.slice A2 h.n2 c2) (iF .u32 w.heap.size A0 h.n0 c0 l.rqs)∧SepF (.slice A2 h.n2 c2) (iF .u32 w.heap.size A1 h.n1 c1 l.ads)∧SepF (.slice A2 h.n2 c2) (iF .u64 w.heap.size A3 h.n3 c3 l.ses)∧Below w.heap.size w w'
end Go.Proofs.YtfhefofkhmkcnaaGreatDoor

/-
 What op.Own answers,the errors as a row of the call's own. Conditions: at most 65536 items a list.
-/
namespace Go.Proofs.YtfhefofkhmkcnaaGreatDoor
set_option maxRecDepth 100000
set_option maxRecDepth 100000
open Go.RowKit
set_option maxHeartbeats 8000000
set_option linter.unusedVariables false
theorem own_row {w:World} {lo:Nat} {h:Hd} {s:Sc} {l:Ls} (hL:Lists lo w h l) (h0:h.n0≤65536) (h1:h.n1≤65536) (h2:h.n2≤65536) (h3:h.n3≤65536) :
  Calls Tryz.prog 39 #[.agg (opv h s)] w (RetOwnR h s l w):=by
 rcases s with ⟨kind,addr,err,aad,used,phase,shard,sought,leaf,bit,word,full,at_,tries,item,stamp⟩
 rcases h with ⟨A0,n0,c0,A1,n1,c1,A2,n2,c2,A3,n3,c3⟩
 try dsimp only at *
 go_enter Tryz.func39,Tryz.ntmps39
 go_upto_region 1 with (fail)
 have L:=Loc.start w
 generalize hal:World.alloc _ _=w1
 replace L:=L.a2 hal
 clear hal
 replace L:=L.is0 (opv hd0 sc0) rfl
 generalize w.heap.size+1=gR at L ⊢
 generalize w.heap.size=gO at L ⊢
 have O_2:=L.at_ 1 2 rfl (v:=.slice A0 n0 c0) rfl
 have O_z:=L.lt 1 rfl
 go_wp2_with fail
 have KSi0:=L.K.size
 refine (clone32_any (hL.i0.below L.K) h0).mono ?_
 rintro e w2 ⟨A0',c0',rfl,I',K'⟩
 clear O_2 O_z
 have Lb:=L.lts
 replace L:=L.over K'
 replace L:=L.is_new Lb I'
 clear Lb
 try dsimp only [lF,List.cons_append,List.nil_append] at L
 clear I'
 have O_2:=L.at_ 1 2 rfl (v:=.slice A0 n0 c0) rfl
 have O_z:=L.lt 1 rfl
 have O_f2:=L.fz 1 2 rfl
 go_upto_region 2 with fail
 clear O_2 O_z O_f2
 generalize hal:World.setCell _ _ _=w3
 replace L:=L.sc1 hal (l9:=(opv ⟨A0',n0,c0',A1,n1,c1,A2,n2,c2,A3,n3,c3⟩ ⟨kind,addr,err,aad,used,phase,shard,sought,leaf,bit,word,full,at_,tries,item,stamp⟩)) rfl
 clear hal
 have O_6:=L.at_ 1 6 rfl (v:=.slice A1 n1 c1) rfl
 have O_z:=L.lt 1 rfl
 go_wp2_with fail
 have KSi1:=L.K.size
 refine (clone32_any (hL.i1.below L.K) h1).mono ?_
 rintro e w4 ⟨A1',c1',rfl,I',K'⟩
 clear O_6 O_z
 have Lb:=L.lts
 replace L:=L.over K'
 replace L:=L.is_new Lb I'
 clear Lb
 try dsimp only [lF,List.cons_append,List.nil_append] at L
 clear I'
 have O_6:=L.at_ 1 6 rfl (v:=.slice A1 n1 c1) rfl
 have O_z:=L.lt 1 rfl
 have O_f6:=L.fz 1 6 rfl
 go_upto_region 3 with fail
 clear O_6 O_z O_f6
 generalize hal:World.setCell _ _ _=w5
 replace L:=L.sc1 hal (l9:=(opv ⟨A0',n0,c0',A1',n1,c1',A2,n2,c2,A3,n3,c3⟩ ⟨kind,addr,err,aad,used,phase,shard,sought,leaf,bit,word,full,at_,tries,item,stamp⟩)) rfl
 clear hal
 have O_7:=L.at_ 1 7 rfl (v:=.slice A2 n2 c2) rfl
 have O_z:=L.lt 1 rfl
 go_wp2_with fail
 have KSr2:=L.K.size
 have I0:=L.is_ 0 rfl
 have J0:=L.is_ 1 rfl
 refine (cloneE_row (hL.i2.below L.K) h2).mono ?_
 rintro e w6 ⟨A2',c2',rfl,R',K'⟩
 clear O_7 O_z
 have Lb:=L.lts
 replace L:=L.over K'
 replace L:=L.ri_new Lb R'
 clear Lb
 try dsimp only [lF,List.cons_append,List.nil_append] at L
 have sep0:=R'.sep_old (lo':=w.heap.size) J0 (Nat.le_refl _)
 have sep1:=R'.sep_old (lo':=w.heap.size) I0 (Nat.le_refl _)
 clear I0 J0 R'
 have O_7:=L.at_ 1 7 rfl (v:=.slice A2 n2 c2) rfl
 have O_z:=L.lt 1 rfl
 have O_f7:=L.fz 1 7 rfl
 go_upto_region 4 with fail
 clear O_7 O_z O_f7
 generalize hal:World.setCell _ _ _=w7
 replace L:=L.sc1 hal (l9:=(opv ⟨A0',n0,c0',A1',n1,c1',A2',n2,c2',A3,n3,c3⟩ ⟨kind,addr,err,aad,used,phase,shard,sought,leaf,bit,word,full,at_,tries,item,stamp⟩)) rfl
 clear hal
 have O_15:=L.at_ 1 15 rfl (v:=.slice A3 n3 c3) rfl
 have O_z:=L.lt 1 rfl
 go_wp2_with fail
 have KSi3:=L.K.size
 have R0:=L.ri_ 0 rfl
 refine (clone64_any (hL.i3.below L.K) h3).mono ?_
 rintro e w8 ⟨A3',c3',rfl,I',K'⟩
 clear O_15 O_z
 have Lb:=L.lts
 replace L:=L.over K'
 replace L:=L.is_new Lb I'
 clear Lb
 try dsimp only [lF,List.cons_append,List.nil_append] at L
 have sep3:=R0.sep_new (lo':=w.heap.size) I' (Nat.le_refl _)
 clear I' R0
 have O_15:=L.at_ 1 15 rfl (v:=.slice A3 n3 c3) rfl
 have O_z:=L.lt 1 rfl
 have O_f15:=L.fz 1 15 rfl
 go_upto_region 5 with fail
 clear O_15 O_z O_f15
 generalize hal:World.setCell _ _ _=w9
 replace L:=L.sc1 hal (l9:=(opv ⟨A0',n0,c0',A1',n1,c1',A2',n2,c2',A3',n3,c3'⟩ ⟨kind,addr,err,aad,used,phase,shard,sought,leaf,bit,word,full,at_,tries,item,stamp⟩)) rfl
 clear hal
 go_wp2_with (first | (refine lO 1 (L.bk_ 1 rfl) ?_) | (refine sO 2 25 (L.bk_ 0 rfl) rfl rfl ?_))
 generalize hal:World.setRow _ _ _=w10
 replace L:=L.rr0 hal
 clear hal
 refine eC Tryz.results39 (L.bk_ 0 rfl) ?_
 exact ⟨_,_,_,_,_,_,_,_,rfl,(L.is_ 3 rfl).lower KSi0,(L.is_ 2 rfl).lower KSi1,(L.ri_ 1 rfl).lower KSr2,(L.is_ 0 rfl).lower KSi3,sep0,sep1,sep3,L.K⟩
end Go.Proofs.YtfhefofkhmkcnaaGreatDoor

/-
 What the closure told answers. Conditions: at most 65000 errors,in a row of the call's own.
-/
namespace Go.Proofs.YtfhefofkhmkcnaaGreatDoor
set_option maxRecDepth 100000
set_option maxRecDepth 100000
open Go.RowKit
set_option maxHeartbeats 8000000
set_option linter.unusedVariables false
section
variable {w w1:World} {lo gO gK0 gK1 gK2 gK3 gK5:Nat} {tK0 tK1 tK2 tK3 tK5:TypeId} {dK0 dK1 dK2 dK3 dK5:Array Value} {fs:List Fct} {h:Hd} {s:Sc} {es:List Int} {x:Int}
theorem told_bat (L:Loc w w1 [(gK0,tK0,dK0),(gK1,tK1,dK1),(gK2,tK2,dK2),(gK3,tK3,dK3),(gO,43,opv h s),(gK5,tK5,dK5)] (rF .i64 37 lo h.A2 h.n2 h.c2 es :: fs)) (hsep:SepL (.slice h.A2 h.n2 h.c2) fs) (hlo:w.heap.size≤lo) (hlw:lo≤w1.heap.size) (hn:h.n2≤65000) (hk:s.kind=4) :
  Calls Tryz.prog 190 #[.int .i64 x,.pointer (some ⟨gO,0,none⟩)] w1 (RetTold h s (es ++ [x]) lo gO w (gK0,tK0,dK0) (gK1,tK1,dK1) (gK2,tK2,dK2) (gK3,tK3,dK3) (gK5,tK5,dK5) fs):=by
 obtain ⟨i0,hi,hz0,hz1,hz2⟩:=info_parts cloneE_info
 rcases s with ⟨kind,addr,err,aad,used,phase,shard,sought,leaf,bit,word,full,at_,tries,item,stamp⟩
 rcases h with ⟨A0,n0,c0,A1,n1,c1,A2,n2,c2,A3,n3,c3⟩
 try dsimp only at *
 subst hk
 go_enter Tryz.func190,Tryz.ntmps190
 go_upto_region 1 with (fail)
 generalize hal:World.alloc _ _=w6
 replace L:=L.a1 hal
 clear hal
 replace L:=L.is0 (opv hd0 sc0) rfl
 generalize w1.heap.size=gR at L hlw ⊢
 obtain ⟨AE,cE,wAE,hapE,LA⟩:=L.app1 (P:=Tryz.prog) (x:=x) hsep hlo (by omega) (Nat.le_of_lt (Nat.lt_of_le_of_lt hlw (L.lt 0 rfl))) Tryz.underlying38 hi hz0 hz1 hz2 38
 have O_0:=L.at_ 5 0 rfl (v:=.int .i64 4) rfl
 have O_7:=L.at_ 5 7 rfl (v:=.slice A2 n2 c2) rfl
 have O_z:=L.lt 5 rfl
 have Oa_f7:=LA.fz 5 7 rfl
 have Oa_7:=LA.at_ 5 7 rfl (v:=.slice A2 n2 c2) rfl
 have Oa_z7:=LA.lt 5 rfl
 go_upto_region 4 with (at_builtin;refine wpList_append_run rfl (.tmp 10) (.tmp 12) 38 rfl _ _ _ _ rfl rfl hapE ?_)
 clear O_0 O_7 O_z Oa_f7 Oa_7 Oa_z7
 replace L:=((LA.set 5 7 rfl (.slice AE (n2+1) cE)).is 5 (opv ⟨A0,n0,c0,A1,n1,c1,AE,(n2+1),cE,A3,n3,c3⟩ ⟨4,addr,err,aad,used,phase,shard,sought,leaf,bit,word,full,at_,tries,item,stamp⟩) rfl)
 clear LA hapE
 try dsimp only [nput] at L
 generalize (wAE).setCell ⟨gO,7,none⟩ (.slice AE (n2+1) cE)=w7 at L ⊢
 go_wp2_with (first | (refine lO 1 (L.bk_ 5 rfl) ?_) | (refine sO 3 19 (L.bk_ 0 rfl) rfl rfl ?_))
 generalize hal:World.setRow _ _ _=w8
 replace L:=L.rr0 hal
 clear hal
 refine eC Tryz.results190 (L.bk_ 0 rfl) ?_
 exact ⟨_,_,_,rfl,Nat.le_refl _,L.del 0⟩
theorem told_one (L:Loc w w1 [(gK0,tK0,dK0),(gK1,tK1,dK1),(gK2,tK2,dK2),(gK3,tK3,dK3),(gO,43,opv h s),(gK5,tK5,dK5)] (rF .i64 37 lo h.A2 h.n2 h.c2 es :: fs)) (hsep:SepL (.slice h.A2 h.n2 h.c2) fs) (hlo:w.heap.size≤lo) (hlw:lo≤w1.heap.size) (hn:h.n2≤65000) (hk:s.kind≠4) :
  Calls Tryz.prog 190 #[.int .i64 x,.pointer (some ⟨gO,0,none⟩)] w1 (RetTold h (erO s x) es lo gO w (gK0,tK0,dK0) (gK1,tK1,dK1) (gK2,tK2,dK2) (gK3,tK3,dK3) (gK5,tK5,dK5) fs):=by
 have e0:(s.kind == 4)=false:=by simp [hk]
 clear hk
 rcases s with ⟨kind,addr,err,aad,used,phase,shard,sought,leaf,bit,word,full,at_,tries,item,stamp⟩
 rcases h with ⟨A0,n0,c0,A1,n1,c1,A2,n2,c2,A3,n3,c3⟩
 try dsimp only at *
 go_enter Tryz.func190,Tryz.ntmps190
 go_upto_region 1 with (fail)
 generalize hal:World.alloc _ _=w6
 replace L:=L.a1 hal
 clear hal
 replace L:=L.is0 (opv hd0 sc0) rfl
 generalize w1.heap.size=gR at L hlw ⊢
 have O_0:=L.at_ 5 0 rfl (v:=.int .i64 kind) rfl
 have O_3:=L.at_ 5 3 rfl (v:=.int .i64 err) rfl
 have O_z:=L.lt 5 rfl
 have O_f3:=L.fz 5 3 rfl
 go_upto_region 4 with fail
 clear O_0 O_3 O_z O_f3
 generalize hal:World.setCell _ _ _=w7
 replace L:=(L.sc 5 rfl hal).is 5 (opv ⟨A0,n0,c0,A1,n1,c1,A2,n2,c2,A3,n3,c3⟩ ⟨kind,addr,x,aad,used,phase,shard,sought,leaf,bit,word,full,at_,tries,item,stamp⟩) rfl
 clear hal
 try dsimp only [nput] at L
 go_wp2_with (first | (refine lO 1 (L.bk_ 5 rfl) ?_) | (refine sO 3 19 (L.bk_ 0 rfl) rfl rfl ?_))
 generalize hal:World.setRow _ _ _=w8
 replace L:=L.rr0 hal
 clear hal
 refine eC Tryz.results190 (L.bk_ 0 rfl) ?_
 exact ⟨_,_,_,rfl,Nat.le_succ _,L.del 0⟩
theorem told_any (L:Loc w w1 [(gK0,tK0,dK0),(gK1,tK1,dK1),(gK2,tK2,dK2),(gK3,tK3,dK3),(gO,43,opv h s),(gK5,tK5,dK5)] (rF .i64 37 lo h.A2 h.n2 h.c2 es :: fs)) (hsep:SepL (.slice h.A2 h.n2 h.c2) fs) (hlo:w.heap.size≤lo) (hlw:lo≤w1.heap.size) (hn:h.n2≤65000) :
  Calls Tryz.prog 190 #[.int .i64 x,.pointer (some ⟨gO,0,none⟩)] w1 (RetTold h (erS s x) (erE s es x) lo gO w (gK0,tK0,dK0) (gK1,tK1,dK1) (gK2,tK2,dK2) (gK3,tK3,dK3) (gK5,tK5,dK5) fs):=by
 by_cases hk:s.kind=4
 ·rw [erS_bat hk,erE_bat hk];exact told_bat L hsep hlo hlw hn hk
 ·rw [erS_one hk,erE_one hk];exact told_one L hsep hlo hlw hn hk
end
end Go.Proofs.YtfhefofkhmkcnaaGreatDoor

/-
 What drop.read answers,while its caller's blocks stand. Conditions: a block that may be;a leaf and bit there are.
-/
namespace Go.Proofs.YtfhefofkhmkcnaaGreatDoor
set_option maxRecDepth 100000
set_option maxRecDepth 100000
open Go.RowKit
set_option maxHeartbeats 8000000
set_option linter.unusedVariables false
section
variable {w w1:World} {lo lo2 gPR gPO gPH a M m d lf bt:Nat} {p sh wo qu tr:Int} {A B:Option Addr} {n c:Nat} {xs:List Int} {ys:List Nat} {h:Hd} {s:Sc} {l:Ls}
theorem read_used (L:Loc w w1 [(gPR,43,opv hd0 sc0),(gPO,43,opv h s),(gPH,27,#[.int .u32 (a:Int),.int .i64 p,.slice A n c,.int .i64 sh,.int .i64 wo,.int .i64 qu,.int .i64 tr])] [rF .i64 37 lo h.A2 h.n2 h.c2 l.ers,iF .u32 lo h.A0 h.n0 h.c0 l.rqs,iF .u32 lo h.A1 h.n1 h.c1 l.ads,iF .u64 lo h.A3 h.n3 h.c3 l.ses,zF lo]) (hs0:SepF (.slice h.A2 h.n2 h.c2) (iF .u32 lo h.A0 h.n0 h.c0 l.rqs)) (hs1:SepF (.slice h.A2 h.n2 h.c2) (iF .u32 lo h.A1 h.n1 h.c1 l.ads)) (hs3:SepF (.slice h.A2 h.n2 h.c2) (iF .u64 lo h.A3 h.n3 h.c3 l.ses)) (hlo:w.heap.size≤lo) (ha:a<4294967296) (hM:Much a p M) (hx:l.rqs=xs) (hn:h.n0≤65536) (hin:s.kind=4→InB a M h.n0 xs) (h1:h.n1≤65536) (h2:h.n2≤65000) (h3:h.n3≤65536) (hU:US w B m d ys) (hlf:s.leaf=(lf:Int)) (hlm:lf<m) (hbt:s.bit=(bt:Int)) (hb5:bt<32) (hb:(gt ys lf).testBit bt=true) :
  Calls Tryz.prog 191 #[.agg #[.int .u32 (a:Int),.int .i64 p,.slice A n c,.int .i64 sh,.int .i64 wo,.int .i64 qu,.int .i64 tr],.slice B m d,.agg (opv h s),.func (.func 190) #[] #[.pointer (some ⟨gPO,0,none⟩)]] w1 (RetLoc lo h.n0 (useS s (gt ys lf)) l m ys false B gPR gPO gPH #[.int .u32 (a:Int),.int .i64 p,.slice A n c,.int .i64 sh,.int .i64 wo,.int .i64 qu,.int .i64 tr] w w1):=by
 have TL:=fun w (U:US w B m d ys)=>Lib.hid (load_nat U lf hlm)
 have TU:=fun w=>Lib.hid (used_any (gt ys lf) bt (gt_lt hU.fit lf) (by omega) w)
 simp only [hb] at TU
 clear hb
 generalize gt ys lf=x at TL TU ⊢
 clear ha hM hn hx hin h1 h3 hlo
 rcases s with ⟨kind,addr,err,aad,used,phase,shard,sought,leaf,bit,word,full,at_,tries,item,stamp⟩
 rcases h with ⟨A0,n0,c0,A1,n1,c1,A2,n2,c2,A3,n3,c3⟩
 try dsimp only at *
 subst hlf hbt
 go_enter Tryz.func191,Tryz.ntmps191
 go_upto_region 1 with (fail)
 generalize hal:World.alloc _ _=w6
 replace L:=L.a3 hal
 clear hal
 replace L:=L.is0 (opv hd0 sc0) rfl
 generalize w1.heap.size+1+1=gR at L ⊢
 generalize w1.heap.size+1=gO at L ⊢
 generalize w1.heap.size=gH at L ⊢
 have O_11:=L.at_ 1 11 rfl (v:=.int .i64 (lf:Int)) rfl
 have O_z:=L.lt 1 rfl
 go_wp2_with fail
 refine ((TL _ (hU.below L.K)).out).mono ?_
 rintro e w' ⟨rfl,rfl⟩
 clear O_11 O_z
 have O_12:=L.at_ 1 12 rfl (v:=.int .i64 (bt:Int)) rfl
 have O_z:=L.lt 1 rfl
 go_wp2_with fail
 refine ((TU _).out).mono ?_
 rintro e w' ⟨rfl,rfl⟩
 clear O_12 O_z
 have O_8:=L.at_ 1 8 rfl (v:=.int .i64 phase) rfl
 have O_13:=L.at_ 1 13 rfl (v:=.int .u64 ((word:Nat):Int)) rfl
 have O_z:=L.lt 1 rfl
 have O_f8:=L.fz 1 8 rfl
 have O_f13:=L.fz 1 13 rfl
 go_upto_region 5 with fail
 clear O_8 O_13 O_z O_f8 O_f13
 replace L:=(((L.set 1 8 rfl (.int .i64 9)).set 1 13 rfl (.int .u64 ((x:Nat):Int))).is 1 (opv ⟨A0,n0,c0,A1,n1,c1,A2,n2,c2,A3,n3,c3⟩ ⟨kind,addr,err,aad,used,9,shard,sought,(lf:Int),(bt:Int),x,full,at_,tries,item,stamp⟩) rfl)
 try dsimp only [nput] at L
 generalize ((w6).setCell ⟨gO,8,none⟩ (.int .i64 9)).setCell ⟨gO,13,none⟩ (.int .u64 ((x:Nat):Int))=w7 at L ⊢
 replace L:=L.drew
 refine wp_region_held_drew (S:=fun w'=>∃ v_R:Array Value,v_R.size=20∧Loc w w' [(gR,43,v_R),(gO,43,opv ⟨A0,n0,c0,A1,n1,c1,A2,n2,c2,A3,n3,c3⟩ ⟨kind,addr,err,aad,used,9,shard,sought,(lf:Int),(bt:Int),x,full,at_,tries,item,stamp⟩),(gH,27,#[.int .u32 (a:Int),.int .i64 p,.slice A n c,.int .i64 sh,.int .i64 wo,.int .i64 qu,.int .i64 tr]),(gPR,43,opv hd0 sc0),(gPO,43,opv ⟨A0,n0,c0,A1,n1,c1,A2,n2,c2,A3,n3,c3⟩ ⟨kind,addr,err,aad,used,phase,shard,sought,(lf:Int),(bt:Int),word,full,at_,tries,item,stamp⟩),(gPH,27,#[.int .u32 (a:Int),.int .i64 p,.slice A n c,.int .i64 sh,.int .i64 wo,.int .i64 qu,.int .i64 tr])] [rF .i64 37 lo A2 n2 c2 l.ers,iF .u32 lo A0 n0 c0 l.rqs,iF .u32 lo A1 n1 c1 l.ads,iF .u64 lo A3 n3 c3 l.ses,zF lo]) (by kernel_rfl) (⟨_,rfl,L⟩) (fun hHeld=>?_)
 generalize w7.drew=v8 at hHeld L ⊢
 refine tg 0 29 (.slice B m d) rfl hHeld ?_
 refine tl 1 30 (.agg (opv ⟨A0,n0,c0,A1,n1,c1,A2,n2,c2,A3,n3,c3⟩ ⟨kind,addr,err,aad,used,9,shard,sought,(lf:Int),(bt:Int),x,full,at_,tries,item,stamp⟩)) rfl (yieldsIf_load_row (by rfl) 43 (.tmp 6) rfl gO rfl 43 _ (0,0) _ (fun _ hS=>(hS.choose_spec.2).bk_ 1 rfl) Tryz.underlying43 rfl op_sz) hHeld ?_
 refine tg 2 8 (.slice B m d) rfl hHeld ?_
 refine rn 3 rfl fun K0 hK=>?_
 rw [if_pos (by rfl)]
 refine wp_store_row 43 (.tmp 9) (.tmp 30) rfl gR _ rfl rfl _ _ (L.bk_ 0 rfl) op_sz rfl (opv_one _ _) ?_
 replace L:=L.row 0 rfl (opv ⟨A0,n0,c0,A1,n1,c1,A2,n2,c2,A3,n3,c3⟩ ⟨kind,addr,err,aad,used,9,shard,sought,(lf:Int),(bt:Int),x,full,at_,tries,item,stamp⟩)
 try dsimp only [nput] at L
 refine hK.out _ _ ⟨_,rfl,L⟩ ?_
 clear hHeld hK K0
 intro hHeld
 generalize v8.setRow gR (opv ⟨A0,n0,c0,A1,n1,c1,A2,n2,c2,A3,n3,c3⟩ ⟨kind,addr,err,aad,used,9,shard,sought,(lf:Int),(bt:Int),x,full,at_,tries,item,stamp⟩)=v9 at hHeld L ⊢
 try simp only [Act.put]
 refine tg 4 10 (.bool false) rfl hHeld ?_
 refine wpAnyH_done (by kernel_rfl) ?_ _
 clear hHeld
 go_wp2
 refine eTCT Tryz.results191 (.slice B m d) (.bool false) (L.bk_ 0 rfl) ?_
 exact ⟨_,_,_,_,_,_,_,_,_,_,_,_,_,_,rfl,hU.below L.K,lists_row (L.is_ 1 rfl) (L.is_ 2 rfl) (L.ri_ 0 rfl) (L.is_ 3 rfl),fun k _ h=>h,((((L.del 0).del 0).del 0).only (fun f h=>by cases h))⟩
theorem read_free (L:Loc w w1 [(gPR,43,opv hd0 sc0),(gPO,43,opv h s),(gPH,27,#[.int .u32 (a:Int),.int .i64 p,.slice A n c,.int .i64 sh,.int .i64 wo,.int .i64 qu,.int .i64 tr])] [rF .i64 37 lo h.A2 h.n2 h.c2 l.ers,iF .u32 lo h.A0 h.n0 h.c0 l.rqs,iF .u32 lo h.A1 h.n1 h.c1 l.ads,iF .u64 lo h.A3 h.n3 h.c3 l.ses,zF lo]) (hs0:SepF (.slice h.A2 h.n2 h.c2) (iF .u32 lo h.A0 h.n0 h.c0 l.rqs)) (hs1:SepF (.slice h.A2 h.n2 h.c2) (iF .u32 lo h.A1 h.n1 h.c1 l.ads)) (hs3:SepF (.slice h.A2 h.n2 h.c2) (iF .u64 lo h.A3 h.n3 h.c3 l.ses)) (hlo:w.heap.size≤lo) (ha:a<4294967296) (hM:Much a p M) (hx:l.rqs=xs) (hn:h.n0≤65536) (hin:s.kind=4→InB a M h.n0 xs) (h1:h.n1≤65536) (h2:h.n2≤65000) (h3:h.n3≤65536) (hU:US w B m d ys) (hlf:s.leaf=(lf:Int)) (hlm:lf<m) (hbt:s.bit=(bt:Int)) (hb5:bt<32) (hb:(gt ys lf).testBit bt=false) :
  Calls Tryz.prog 191 #[.agg #[.int .u32 (a:Int),.int .i64 p,.slice A n c,.int .i64 sh,.int .i64 wo,.int .i64 qu,.int .i64 tr],.slice B m d,.agg (opv h s),.func (.func 190) #[] #[.pointer (some ⟨gPO,0,none⟩)]] w1 (RetLoc lo h.n0 (freeS a h.n0 xs s) (erL s l 6) m ys true B gPR gPO gPH #[.int .u32 (a:Int),.int .i64 p,.slice A n c,.int .i64 sh,.int .i64 wo,.int .i64 qu,.int .i64 tr] w w1):=by
 have TG:=fun w A2 n2 c2 (hn2:n2≤65001) (hL:Lists lo w ⟨h.A0,h.n0,h.c0,h.A1,h.n1,h.c1,A2,n2,c2,h.A3,h.n3,h.c3⟩ (erL s l 6))=>Lib.hid (goes_any (w:=w) (sh:=sh) (wo:=wo) (qu:=qu) (tr:=tr) (A:=A) (n:=n) (c:=c) (h:=⟨h.A0,h.n0,h.c0,h.A1,h.n1,h.c1,A2,n2,c2,h.A3,h.n3,h.c3⟩) (s:=erS s 6) ha hM hn (hL.asked hx) hin hL h1 (by show n2≤65536;omega) h3)
 have TL:=fun w (U:US w B m d ys)=>Lib.hid (load_nat U lf hlm)
 have TU:=fun w=>Lib.hid (used_any (gt ys lf) bt (gt_lt hU.fit lf) (by omega) w)
 simp only [hb] at TU
 clear hb
 generalize gt ys lf=x at TL TU ⊢
 clear ha hM hn hx hin h1 h3
 rcases s with ⟨kind,addr,err,aad,used,phase,shard,sought,leaf,bit,word,full,at_,tries,item,stamp⟩
 rcases h with ⟨A0,n0,c0,A1,n1,c1,A2,n2,c2,A3,n3,c3⟩
 try dsimp only at *
 subst hlf hbt
 go_enter Tryz.func191,Tryz.ntmps191
 go_upto_region 1 with (fail)
 generalize hal:World.alloc _ _=w6
 replace L:=L.a3 hal
 clear hal
 replace L:=L.is0 (opv hd0 sc0) rfl
 generalize w1.heap.size+1+1=gR at L ⊢
 generalize w1.heap.size+1=gO at L ⊢
 generalize w1.heap.size=gH at L ⊢
 have O_11:=L.at_ 1 11 rfl (v:=.int .i64 (lf:Int)) rfl
 have O_z:=L.lt 1 rfl
 go_wp2_with fail
 refine ((TL _ (hU.below L.K)).out).mono ?_
 rintro e w' ⟨rfl,rfl⟩
 clear O_11 O_z
 have O_12:=L.at_ 1 12 rfl (v:=.int .i64 (bt:Int)) rfl
 have O_z:=L.lt 1 rfl
 go_wp2_with fail
 refine ((TU _).out).mono ?_
 rintro e w' ⟨rfl,rfl⟩
 clear O_12 O_z
 go_upto_region 3 with (fail)
 replace L:=L.drew
 refine wp_region_held_drew (S:=fun w'=>∃ v_PO:Array Value,v_PO.size=20∧∃ v_R:Array Value,v_R.size=20∧Loc w w' [(gR,43,v_R),(gO,43,opv ⟨A0,n0,c0,A1,n1,c1,A2,n2,c2,A3,n3,c3⟩ ⟨kind,addr,err,aad,used,phase,shard,sought,(lf:Int),(bt:Int),word,full,at_,tries,item,stamp⟩),(gH,27,#[.int .u32 (a:Int),.int .i64 p,.slice A n c,.int .i64 sh,.int .i64 wo,.int .i64 qu,.int .i64 tr]),(gPR,43,opv hd0 sc0),(gPO,43,v_PO),(gPH,27,#[.int .u32 (a:Int),.int .i64 p,.slice A n c,.int .i64 sh,.int .i64 wo,.int .i64 qu,.int .i64 tr])] [iF .u32 lo A0 n0 c0 l.rqs,iF .u32 lo A1 n1 c1 l.ads,iF .u64 lo A3 n3 c3 l.ses,zF lo]) (by kernel_rfl) (⟨_,rfl,⟨_,rfl,(L.less 1)⟩⟩) (fun hHeld=>?_)
 generalize w6.drew=v7 at hHeld L ⊢
 refine tg 0 21 (.slice B m d) rfl hHeld ?_
 refine tl 1 22 (.agg (#[.int .u32 (a:Int),.int .i64 p,.slice A n c,.int .i64 sh,.int .i64 wo,.int .i64 qu,.int .i64 tr])) rfl (yieldsIf_load_row (by rfl) 27 (.tmp 4) rfl gH rfl 27 _ (0,0) _ (fun _ hS=>(hS.choose_spec.2.choose_spec.2).bk_ 2 rfl) Tryz.underlying27 rfl cf_sz) hHeld ?_
 refine tg 2 23 (.func (.func 190) #[] #[.pointer (some ⟨gPO,0,none⟩)]) rfl hHeld ?_
 refine rd 3 24 rfl fun K0 hK=>?_
 go_simp
 refine (told_any (x:=6) L (SepL.cons hs0 (SepL.cons hs1 (SepL.cons hs3 (SepL.cons SepF.z SepL.nil)))) hlo (L.sz_ 4 rfl) (by show n2≤65000;omega)).mono ?_
 rintro e w8 ⟨A2',n2',c2',rfl,hn2',LN⟩
 replace L:=LN
 replace hn2':n2'≤n2+1:=hn2'
 try dsimp only at L
 refine hK.out _ _ ⟨_,rfl,⟨_,rfl,(L.less 1)⟩⟩ ?_
 clear hHeld hK K0
 intro hHeld
 try dsimp only
 refine rd 4 25 rfl fun K0 hK=>?_
 have KZ:=L.sz_ 4 rfl
 go_simp
 refine ((TG _ _ _ _ (by omega) (lists_row (L.is_ 1 rfl) (L.is_ 2 rfl) (L.ri_ 0 rfl) (L.is_ 3 rfl))).out).mono ?_
 rintro e w9 ⟨A0',c0',A1',c1',A2'',c2'',A3',c3',rfl,L',K'⟩
 have Lb:=L.lts
 replace L:=L.over K'
 replace L:=L.lists Lb L'
 clear Lb
 try dsimp only [lF,List.cons_append,List.nil_append] at L
 clear L'
 refine hK.out _ _ ⟨_,rfl,⟨_,rfl,(L.less 5)⟩⟩ ?_
 clear hHeld hK K0
 intro hHeld
 clear K'
 try dsimp only
 refine tg 5 8 (.slice B m d) rfl hHeld ?_
 refine rn 6 rfl fun K0 hK=>?_
 rw [if_pos (by rfl)]
 refine wp_store_row 43 (.tmp 9) (.tmp 25) rfl gR _ rfl rfl _ _ (L.bk_ 0 rfl) op_sz rfl (opv_one _ _) ?_
 replace L:=L.row 0 rfl (opv ⟨A0',n0,c0',A1',n1,c1',A2'',n2',c2'',A3',n3,c3'⟩ (gon a n0 xs (erS ⟨kind,addr,err,aad,used,phase,shard,sought,(lf:Int),(bt:Int),word,full,at_,tries,item,stamp⟩ 6)))
 try dsimp only [nput] at L
 refine hK.out _ _ ⟨_,rfl,⟨_,rfl,(L.less 5)⟩⟩ ?_
 clear hHeld hK K0
 intro hHeld
 generalize w9.setRow gR (opv ⟨A0',n0,c0',A1',n1,c1',A2'',n2',c2'',A3',n3,c3'⟩ (gon a n0 xs (erS ⟨kind,addr,err,aad,used,phase,shard,sought,(lf:Int),(bt:Int),word,full,at_,tries,item,stamp⟩ 6)))=v10 at hHeld L ⊢
 try simp only [Act.put]
 refine tg 7 10 (.bool true) rfl hHeld ?_
 refine wpAnyH_done (by kernel_rfl) ?_ _
 clear hHeld
 go_wp2
 refine eTCT Tryz.results191 (.slice B m d) (.bool true) (L.bk_ 0 rfl) ?_
 exact ⟨_,_,_,_,_,_,_,_,_,_,_,_,_,_,rfl,hU.below L.K,(L.lists_at 0 rfl).lower_ KZ,fun k _ h=>h,((((L.del 0).del 0).del 0).only (fun f h=>by cases h))⟩
end
end Go.Proofs.YtfhefofkhmkcnaaGreatDoor

/-
 What drop.drop answers,while its caller's blocks stand. Conditions: a block that may be;a leaf and bit there are.
-/
namespace Go.Proofs.YtfhefofkhmkcnaaGreatDoor
set_option maxRecDepth 100000
set_option maxRecDepth 100000
open Go.RowKit
set_option maxHeartbeats 8000000
set_option linter.unusedVariables false
section
variable {w w1:World} {lo lo2 gPR gPO gPH a M m d lf bt:Nat} {p sh wo qu tr:Int} {A B:Option Addr} {n c:Nat} {xs:List Int} {ys:List Nat} {h:Hd} {s:Sc} {l:Ls}
theorem drop_not (L:Loc w w1 [(gPR,43,opv hd0 sc0),(gPO,43,opv h s),(gPH,27,#[.int .u32 (a:Int),.int .i64 p,.slice A n c,.int .i64 sh,.int .i64 wo,.int .i64 qu,.int .i64 tr])] [rF .i64 37 lo h.A2 h.n2 h.c2 l.ers,iF .u32 lo h.A0 h.n0 h.c0 l.rqs,iF .u32 lo h.A1 h.n1 h.c1 l.ads,iF .u64 lo h.A3 h.n3 h.c3 l.ses,zF lo]) (hs0:SepF (.slice h.A2 h.n2 h.c2) (iF .u32 lo h.A0 h.n0 h.c0 l.rqs)) (hs1:SepF (.slice h.A2 h.n2 h.c2) (iF .u32 lo h.A1 h.n1 h.c1 l.ads)) (hs3:SepF (.slice h.A2 h.n2 h.c2) (iF .u64 lo h.A3 h.n3 h.c3 l.ses)) (hlo:w.heap.size≤lo) (ha:a<4294967296) (hM:Much a p M) (hx:l.rqs=xs) (hn:h.n0≤65536) (hin:s.kind=4→InB a M h.n0 xs) (h1:h.n1≤65536) (h2:h.n2≤65000) (h3:h.n3≤65536) (hU:US w B m d ys) (hlf:s.leaf=(lf:Int)) (hlm:lf<m) (hbt:s.bit=(bt:Int)) (hb5:bt<32) (hm:m≤65536) (hw:s.word<18446744073709551616) (hne:gt ys lf≠s.word) :
  Calls Tryz.prog 192 #[.agg #[.int .u32 (a:Int),.int .i64 p,.slice A n c,.int .i64 sh,.int .i64 wo,.int .i64 qu,.int .i64 tr],.slice B m d,.agg (opv h s),.func (.func 190) #[] #[.pointer (some ⟨gPO,0,none⟩)]] w1 (RetLoc lo h.n0 (rdS s) l m ys false B gPR gPO gPH #[.int .u32 (a:Int),.int .i64 p,.slice A n c,.int .i64 sh,.int .i64 wo,.int .i64 qu,.int .i64 tr] w w1):=by
 have TC:=fun w=>Lib.hid (drop_any s.word bt hw (by omega) w)
 have hyl:drp s.word bt<U64:=drp_lt _ _
 have TS:∀ w,US w B m d ys→Hid (Calls Tryz.prog 135 #[.slice B m d,.int .i64 (lf:Nat),.int .u64 (s.word:Nat),.int .u64 (drp s.word bt:Nat)] w fun e w'=>e=.returned (.tuple #[.slice B m d,.bool false])∧Below w.heap.size w w'):=fun w U=>swap_same U hlm hne
 generalize drp s.word bt=y at TC TS
 clear hne hyl ha hM hn hin h1 h3 hlo hw
 rcases s with ⟨kind,addr,err,aad,used,phase,shard,sought,leaf,bit,word,full,at_,tries,item,stamp⟩
 rcases h with ⟨A0,n0,c0,A1,n1,c1,A2,n2,c2,A3,n3,c3⟩
 try dsimp only at *
 subst hlf hbt
 go_enter Tryz.func192,Tryz.ntmps192
 go_upto_region 1 with (fail)
 generalize hal:World.alloc _ _=w6
 replace L:=L.a3 hal
 clear hal
 replace L:=L.is0 (opv hd0 sc0) rfl
 generalize w1.heap.size+1+1=gR at L ⊢
 generalize w1.heap.size+1=gO at L ⊢
 generalize w1.heap.size=gH at L ⊢
 refine rg L fun v7 hHeld=>?_
 replace L:=hHeld
 refine tz 0 13 rfl hHeld ?_
 refine tg 1 14 (.pointer (some ⟨gO,11,none⟩)) rfl hHeld ?_
 refine tC 2 15 1 11 rfl rfl rfl hHeld ?_
 refine tg 3 16 (.pointer (some ⟨gO,13,none⟩)) rfl hHeld ?_
 refine tC 4 17 1 13 rfl rfl rfl hHeld ?_
 refine tg 5 18 (.pointer (some ⟨gO,13,none⟩)) rfl hHeld ?_
 refine tC 6 19 1 13 rfl rfl rfl hHeld ?_
 refine tg 7 20 (.pointer (some ⟨gO,12,none⟩)) rfl hHeld ?_
 refine tC 8 21 1 12 rfl rfl rfl hHeld ?_
 refine rd 9 22 rfl fun K0 hK=>?_
 go_simp
 refine ((TC _).out).mono ?_
 rintro e w' ⟨rfl,rfl⟩
 refine hK.out _ _ L ?_
 clear hHeld hK K0
 intro hHeld
 try simp only [Act.put,sA,sZ,sS]
 refine rd 10 23 rfl fun K0 hK=>?_
 go_simp
 refine ((TS _ (hU.below L.K)).out).mono ?_
 rintro e w8 ⟨rfl,K'⟩
 replace L:=L.over K'
 refine hK.out _ _ L ?_
 clear hHeld hK K0
 intro hHeld
 clear K'
 try simp only [Act.put,sA,sZ,sS]
 refine tz 11 12 rfl hHeld ?_
 refine tg 12 24 (.slice B m d) rfl hHeld ?_
 refine tg 13 25 (.bool false) rfl hHeld ?_
 refine tg 14 1 (.slice B m d) rfl hHeld ?_
 refine tg 15 11 (.bool false) rfl hHeld ?_
 refine wpAnyH_done (by kernel_rfl) ?_ _
 clear hHeld
 have O_8:=L.at_ 1 8 rfl (v:=.int .i64 phase) rfl
 have O_13:=L.at_ 1 13 rfl (v:=.int .u64 ((word:Nat):Int)) rfl
 have O_z:=L.lt 1 rfl
 have O_f8:=L.fz 1 8 rfl
 have O_f13:=L.fz 1 13 rfl
 go_upto_region 4 with fail
 clear O_8 O_13 O_z O_f8 O_f13
 replace L:=(((L.set 1 8 rfl (.int .i64 8)).set 1 13 rfl (.int .u64 0)).is 1 (opv ⟨A0,n0,c0,A1,n1,c1,A2,n2,c2,A3,n3,c3⟩ ⟨kind,addr,err,aad,used,8,shard,sought,(lf:Int),(bt:Int),0,full,at_,tries,item,stamp⟩) rfl)
 try dsimp only [nput] at L
 generalize ((w8).setCell ⟨gO,8,none⟩ (.int .i64 8)).setCell ⟨gO,13,none⟩ (.int .u64 0)=w9 at L ⊢
 replace L:=L.drew
 refine wp_region_held_drew (S:=fun w'=>∃ v_R:Array Value,v_R.size=20∧Loc w w' [(gR,43,v_R),(gO,43,opv ⟨A0,n0,c0,A1,n1,c1,A2,n2,c2,A3,n3,c3⟩ ⟨kind,addr,err,aad,used,8,shard,sought,(lf:Int),(bt:Int),0,full,at_,tries,item,stamp⟩),(gH,27,#[.int .u32 (a:Int),.int .i64 p,.slice A n c,.int .i64 sh,.int .i64 wo,.int .i64 qu,.int .i64 tr]),(gPR,43,opv hd0 sc0),(gPO,43,opv ⟨A0,n0,c0,A1,n1,c1,A2,n2,c2,A3,n3,c3⟩ ⟨kind,addr,err,aad,used,phase,shard,sought,(lf:Int),(bt:Int),word,full,at_,tries,item,stamp⟩),(gPH,27,#[.int .u32 (a:Int),.int .i64 p,.slice A n c,.int .i64 sh,.int .i64 wo,.int .i64 qu,.int .i64 tr])] [rF .i64 37 lo A2 n2 c2 l.ers,iF .u32 lo A0 n0 c0 l.rqs,iF .u32 lo A1 n1 c1 l.ads,iF .u64 lo A3 n3 c3 l.ses,zF lo]) (by kernel_rfl) (⟨_,rfl,L⟩) (fun hHeld=>?_)
 generalize w9.drew=v10 at hHeld L ⊢
 refine tg 0 30 (.slice B m d) rfl hHeld ?_
 refine tl 1 31 (.agg (opv ⟨A0,n0,c0,A1,n1,c1,A2,n2,c2,A3,n3,c3⟩ ⟨kind,addr,err,aad,used,8,shard,sought,(lf:Int),(bt:Int),0,full,at_,tries,item,stamp⟩)) rfl (yieldsIf_load_row (by rfl) 43 (.tmp 6) rfl gO rfl 43 _ (0,0) _ (fun _ hS=>(hS.choose_spec.2).bk_ 1 rfl) Tryz.underlying43 rfl op_sz) hHeld ?_
 refine tg 2 8 (.slice B m d) rfl hHeld ?_
 refine rn 3 rfl fun K0 hK=>?_
 rw [if_pos (by rfl)]
 refine wp_store_row 43 (.tmp 9) (.tmp 31) rfl gR _ rfl rfl _ _ (L.bk_ 0 rfl) op_sz rfl (opv_one _ _) ?_
 replace L:=L.row 0 rfl (opv ⟨A0,n0,c0,A1,n1,c1,A2,n2,c2,A3,n3,c3⟩ ⟨kind,addr,err,aad,used,8,shard,sought,(lf:Int),(bt:Int),0,full,at_,tries,item,stamp⟩)
 try dsimp only [nput] at L
 refine hK.out _ _ ⟨_,rfl,L⟩ ?_
 clear hHeld hK K0
 intro hHeld
 generalize v10.setRow gR (opv ⟨A0,n0,c0,A1,n1,c1,A2,n2,c2,A3,n3,c3⟩ ⟨kind,addr,err,aad,used,8,shard,sought,(lf:Int),(bt:Int),0,full,at_,tries,item,stamp⟩)=v11 at hHeld L ⊢
 try simp only [Act.put]
 refine tg 4 10 (.bool false) rfl hHeld ?_
 refine wpAnyH_done (by kernel_rfl) ?_ _
 clear hHeld
 go_wp2
 refine eTCT Tryz.results192 (.slice B m d) (.bool false) (L.bk_ 0 rfl) ?_
 exact ⟨_,_,_,_,_,_,_,_,_,_,_,_,_,_,rfl,hU.below L.K,lists_row (L.is_ 1 rfl) (L.is_ 2 rfl) (L.ri_ 0 rfl) (L.is_ 3 rfl),fun k _ h=>h,((((L.del 0).del 0).del 0).only (fun f h=>by cases h))⟩
theorem drop_full (L:Loc w w1 [(gPR,43,opv hd0 sc0),(gPO,43,opv h s),(gPH,27,#[.int .u32 (a:Int),.int .i64 p,.slice A n c,.int .i64 sh,.int .i64 wo,.int .i64 qu,.int .i64 tr])] [rF .i64 37 lo h.A2 h.n2 h.c2 l.ers,iF .u32 lo h.A0 h.n0 h.c0 l.rqs,iF .u32 lo h.A1 h.n1 h.c1 l.ads,iF .u64 lo h.A3 h.n3 h.c3 l.ses,zF lo]) (hs0:SepF (.slice h.A2 h.n2 h.c2) (iF .u32 lo h.A0 h.n0 h.c0 l.rqs)) (hs1:SepF (.slice h.A2 h.n2 h.c2) (iF .u32 lo h.A1 h.n1 h.c1 l.ads)) (hs3:SepF (.slice h.A2 h.n2 h.c2) (iF .u64 lo h.A3 h.n3 h.c3 l.ses)) (hlo:w.heap.size≤lo) (ha:a<4294967296) (hM:Much a p M) (hx:l.rqs=xs) (hn:h.n0≤65536) (hin:s.kind=4→InB a M h.n0 xs) (h1:h.n1≤65536) (h2:h.n2≤65000) (h3:h.n3≤65536) (hU:US w B m d ys) (hlf:s.leaf=(lf:Int)) (hlm:lf<m) (hbt:s.bit=(bt:Int)) (hb5:bt<32) (hm:m≤65536) (hw:s.word<18446744073709551616) (heq:gt ys lf=s.word) (hfl:fl s.word=true) :
  Calls Tryz.prog 192 #[.agg #[.int .u32 (a:Int),.int .i64 p,.slice A n c,.int .i64 sh,.int .i64 wo,.int .i64 qu,.int .i64 tr],.slice B m d,.agg (opv h s),.func (.func 190) #[] #[.pointer (some ⟨gPO,0,none⟩)]] w1 (RetLoc lo h.n0 (emS (erS s 0)) (erL s l 0) m (ys.set lf (drp s.word bt)) true B gPR gPO gPH #[.int .u32 (a:Int),.int .i64 p,.slice A n c,.int .i64 sh,.int .i64 wo,.int .i64 qu,.int .i64 tr] w w1):=by
 have TC:=fun w=>Lib.hid (drop_any s.word bt hw (by omega) w)
 have hyl:drp s.word bt<U64:=drp_lt _ _
 have TFu:=fun w=>Lib.hid (full_any s.word hw w)
 simp only [hfl] at TFu
 clear hfl hw
 have TS:∀ w,US w B m d ys→Hid (Calls Tryz.prog 135 #[.slice B m d,.int .i64 (lf:Nat),.int .u64 (s.word:Nat),.int .u64 (drp s.word bt:Nat)] w (RetSN m (ys.set lf (drp s.word bt)) w)):=fun w U=>by have:=swap_new U hlm hm hyl;rw [heq] at this;exact this
 clear heq hyl
 generalize drp s.word bt=y at TC TS ⊢
 clear ha hM hn hx hin h1 h3
 rcases s with ⟨kind,addr,err,aad,used,phase,shard,sought,leaf,bit,word,full,at_,tries,item,stamp⟩
 rcases h with ⟨A0,n0,c0,A1,n1,c1,A2,n2,c2,A3,n3,c3⟩
 try dsimp only at *
 subst hlf hbt
 obtain ⟨z1,hz1⟩:∃ z,z=w1.heap.size:=⟨_,rfl⟩
 replace L:=L.sz (lo:=z1) (by omega)
 replace hz1:=Lib.hid hz1
 go_enter Tryz.func192,Tryz.ntmps192
 go_upto_region 1 with (fail)
 generalize hal:World.alloc _ _=w6
 replace L:=L.a3 hal
 clear hal
 replace L:=L.is0 (opv hd0 sc0) rfl
 generalize w1.heap.size+1+1=gR at L ⊢
 generalize w1.heap.size+1=gO at L ⊢
 generalize w1.heap.size=gH at L ⊢
 refine rg L fun v7 hHeld=>?_
 replace L:=hHeld
 refine tz 0 13 rfl hHeld ?_
 refine tg 1 14 (.pointer (some ⟨gO,11,none⟩)) rfl hHeld ?_
 refine tC 2 15 1 11 rfl rfl rfl hHeld ?_
 refine tg 3 16 (.pointer (some ⟨gO,13,none⟩)) rfl hHeld ?_
 refine tC 4 17 1 13 rfl rfl rfl hHeld ?_
 refine tg 5 18 (.pointer (some ⟨gO,13,none⟩)) rfl hHeld ?_
 refine tC 6 19 1 13 rfl rfl rfl hHeld ?_
 refine tg 7 20 (.pointer (some ⟨gO,12,none⟩)) rfl hHeld ?_
 refine tC 8 21 1 12 rfl rfl rfl hHeld ?_
 refine rd 9 22 rfl fun K0 hK=>?_
 go_simp
 refine ((TC _).out).mono ?_
 rintro e w' ⟨rfl,rfl⟩
 refine hK.out _ _ L ?_
 clear hHeld hK K0
 intro hHeld
 try simp only [Act.put,sA,sZ,sS]
 refine rd 10 23 rfl fun K0 hK=>?_
 have KZ1:=L.sz_ 0 rfl
 have R0:=L.ri_ 1 rfl
 go_simp
 refine ((TS _ (hU.below L.K)).out).mono ?_
 rintro e w8 ⟨gS,dS,rfl,U,hgS,K'⟩
 have Lb:=L.lts
 replace L:=L.over K'
 replace L:=L.us_av (fun i b e b' o e'=>by injection e' with e';injection e' with e1;have:=Lb i b e;omega) U
 clear Lb
 try dsimp only [lF,List.cons_append,List.nil_append] at L
 have sU:=R0.sep_cells (n':=m) (c:=dS) (ys:=ys.set lf y) hgS
 clear U R0
 replace hgS:=Nat.le_trans KZ1 hgS
 rw [hz1.out] at hgS
 refine hK.out _ _ (L.less 1) ?_
 clear hHeld hK K0
 intro hHeld
 clear K'
 try simp only [Act.put,sA,sZ,sS]
 refine tz 11 12 rfl hHeld ?_
 refine tg 12 24 (.slice (some ⟨gS,0,none⟩) m dS) rfl hHeld ?_
 refine tg 13 25 (.bool true) rfl hHeld ?_
 refine tg 14 1 (.slice (some ⟨gS,0,none⟩) m dS) rfl hHeld ?_
 refine tg 15 11 (.bool true) rfl hHeld ?_
 refine wpAnyH_done (by kernel_rfl) ?_ _
 clear hHeld
 go_wp2_with fail
 replace L:=L.only (fs':=[rF .i64 37 lo A2 n2 c2 l.ers,uF (some ⟨gS,0,none⟩) m dS (ys.set lf y),iF .u32 lo A0 n0 c0 l.rqs,iF .u32 lo A1 n1 c1 l.ads,iF .u64 lo A3 n3 c3 l.ses,zF lo,zF z1]) (by simp)
 refine (told_any (x:=0) L (SepL.cons sU (SepL.cons hs0 (SepL.cons hs1 (SepL.cons hs3 (SepL.cons SepF.z (SepL.cons SepF.z SepL.nil)))))) hlo (L.sz_ 5 rfl) (by show n2≤65000;omega)).mono ?_
 rintro e w9 ⟨A2',n2',c2',rfl,hn2',LN⟩
 replace L:=LN
 replace hn2':n2'≤n2+1:=hn2'
 try dsimp only at L
 go_upto_region 6 with (refine sO 6 33 (L.bk_ 1 rfl) rfl rfl ?_)
 generalize hal:World.setRow _ _ _=w10
 replace L:=L.rr1 hal
 clear hal
 have O_13:=L.at_ 1 13 rfl (v:=.int .u64 ((word:Nat):Int)) rfl
 have O_z:=L.lt 1 rfl
 go_wp2_with fail
 refine ((TFu _).out).mono ?_
 rintro e w' ⟨rfl,rfl⟩
 clear O_13 O_z
 have O_8:=L.at_ 1 8 rfl (v:=.int .i64 phase) rfl
 have O_14:=L.at_ 1 14 rfl (v:=.bool full) rfl
 have O_16:=L.at_ 1 16 rfl (v:=.int .i64 at_) rfl
 have O_13:=L.at_ 1 13 rfl (v:=.int .u64 ((word:Nat):Int)) rfl
 have O_z:=L.lt 1 rfl
 have O_f8:=L.fz 1 8 rfl
 have O_f14:=L.fz 1 14 rfl
 have O_f16:=L.fz 1 16 rfl
 have O_f13:=L.fz 1 13 rfl
 go_upto_region 9 with fail
 clear O_8 O_14 O_16 O_13 O_z O_f8 O_f14 O_f16 O_f13
 replace L:=(((((L.set 1 8 rfl (.int .i64 4)).set 1 14 rfl (.bool false)).set 1 16 rfl (.int .i64 0)).set 1 13 rfl (.int .u64 0)).is 1 (opv ⟨A0,n0,c0,A1,n1,c1,A2',n2',c2',A3,n3,c3⟩ ⟨kind,addr,(erI kind err 0),aad,used,4,shard,sought,(lf:Int),(bt:Int),0,false,0,tries,item,stamp⟩) rfl)
 try dsimp only [nput] at L
 generalize ((((w10).setCell ⟨gO,8,none⟩ (.int .i64 4)).setCell ⟨gO,14,none⟩ (.bool false)).setCell ⟨gO,16,none⟩ (.int .i64 0)).setCell ⟨gO,13,none⟩ (.int .u64 0)=w11 at L ⊢
 replace L:=L.drew
 refine wp_region_held_drew (S:=fun w'=>∃ v_R:Array Value,v_R.size=20∧Loc w w' [(gR,43,v_R),(gO,43,opv ⟨A0,n0,c0,A1,n1,c1,A2',n2',c2',A3,n3,c3⟩ ⟨kind,addr,(erI kind err 0),aad,used,4,shard,sought,(lf:Int),(bt:Int),0,false,0,tries,item,stamp⟩),(gH,27,#[.int .u32 (a:Int),.int .i64 p,.slice A n c,.int .i64 sh,.int .i64 wo,.int .i64 qu,.int .i64 tr]),(gPR,43,opv hd0 sc0),(gPO,43,opv ⟨A0,n0,c0,A1,n1,c1,A2',n2',c2',A3,n3,c3⟩ (erS ⟨kind,addr,err,aad,used,phase,shard,sought,(lf:Int),(bt:Int),word,full,at_,tries,item,stamp⟩ 0)),(gPH,27,#[.int .u32 (a:Int),.int .i64 p,.slice A n c,.int .i64 sh,.int .i64 wo,.int .i64 qu,.int .i64 tr])] [rF .i64 37 lo A2' n2' c2' (erE ⟨kind,addr,err,aad,used,phase,shard,sought,(lf:Int),(bt:Int),word,full,at_,tries,item,stamp⟩ l.ers 0),uF (some ⟨gS,0,none⟩) m dS (ys.set lf y),iF .u32 lo A0 n0 c0 l.rqs,iF .u32 lo A1 n1 c1 l.ads,iF .u64 lo A3 n3 c3 l.ses,zF lo,zF z1]) (by kernel_rfl) (⟨_,rfl,L⟩) (fun hHeld=>?_)
 generalize w11.drew=v12 at hHeld L ⊢
 refine tg 0 46 (.slice (some ⟨gS,0,none⟩) m dS) rfl hHeld ?_
 refine tl 1 47 (.agg (opv ⟨A0,n0,c0,A1,n1,c1,A2',n2',c2',A3,n3,c3⟩ ⟨kind,addr,(erI kind err 0),aad,used,4,shard,sought,(lf:Int),(bt:Int),0,false,0,tries,item,stamp⟩)) rfl (yieldsIf_load_row (by rfl) 43 (.tmp 6) rfl gO rfl 43 _ (0,0) _ (fun _ hS=>(hS.choose_spec.2).bk_ 1 rfl) Tryz.underlying43 rfl op_sz) hHeld ?_
 refine tg 2 8 (.slice (some ⟨gS,0,none⟩) m dS) rfl hHeld ?_
 refine rn 3 rfl fun K0 hK=>?_
 rw [if_pos (by rfl)]
 refine wp_store_row 43 (.tmp 9) (.tmp 47) rfl gR _ rfl rfl _ _ (L.bk_ 0 rfl) op_sz rfl (opv_one _ _) ?_
 replace L:=L.row 0 rfl (opv ⟨A0,n0,c0,A1,n1,c1,A2',n2',c2',A3,n3,c3⟩ ⟨kind,addr,(erI kind err 0),aad,used,4,shard,sought,(lf:Int),(bt:Int),0,false,0,tries,item,stamp⟩)
 try dsimp only [nput] at L
 refine hK.out _ _ ⟨_,rfl,L⟩ ?_
 clear hHeld hK K0
 intro hHeld
 generalize v12.setRow gR (opv ⟨A0,n0,c0,A1,n1,c1,A2',n2',c2',A3,n3,c3⟩ ⟨kind,addr,(erI kind err 0),aad,used,4,shard,sought,(lf:Int),(bt:Int),0,false,0,tries,item,stamp⟩)=v13 at hHeld L ⊢
 try simp only [Act.put]
 refine tg 4 10 (.bool true) rfl hHeld ?_
 refine wpAnyH_done (by kernel_rfl) ?_ _
 clear hHeld
 go_wp2
 refine eTCT Tryz.results192 (.slice (some ⟨gS,0,none⟩) m dS) (.bool true) (L.bk_ 0 rfl) ?_
 exact ⟨_,_,_,_,_,_,_,_,_,_,_,_,_,_,rfl,L.us_ 1 rfl,lists_row (L.is_ 2 rfl) (L.is_ 3 rfl) (L.ri_ 0 rfl) (L.is_ 4 rfl),fun k hk _ b o e=>by injection e with e;injection e with e1;omega,((((L.del 0).del 0).del 0).only (fun f h=>by cases h))⟩
theorem drop_go (L:Loc w w1 [(gPR,43,opv hd0 sc0),(gPO,43,opv h s),(gPH,27,#[.int .u32 (a:Int),.int .i64 p,.slice A n c,.int .i64 sh,.int .i64 wo,.int .i64 qu,.int .i64 tr])] [rF .i64 37 lo h.A2 h.n2 h.c2 l.ers,iF .u32 lo h.A0 h.n0 h.c0 l.rqs,iF .u32 lo h.A1 h.n1 h.c1 l.ads,iF .u64 lo h.A3 h.n3 h.c3 l.ses,zF lo]) (hs0:SepF (.slice h.A2 h.n2 h.c2) (iF .u32 lo h.A0 h.n0 h.c0 l.rqs)) (hs1:SepF (.slice h.A2 h.n2 h.c2) (iF .u32 lo h.A1 h.n1 h.c1 l.ads)) (hs3:SepF (.slice h.A2 h.n2 h.c2) (iF .u64 lo h.A3 h.n3 h.c3 l.ses)) (hlo:w.heap.size≤lo) (ha:a<4294967296) (hM:Much a p M) (hx:l.rqs=xs) (hn:h.n0≤65536) (hin:s.kind=4→InB a M h.n0 xs) (h1:h.n1≤65536) (h2:h.n2≤65000) (h3:h.n3≤65536) (hU:US w B m d ys) (hlf:s.leaf=(lf:Int)) (hlm:lf<m) (hbt:s.bit=(bt:Int)) (hb5:bt<32) (hm:m≤65536) (hw:s.word<18446744073709551616) (heq:gt ys lf=s.word) (hfl:fl s.word=false) :
  Calls Tryz.prog 192 #[.agg #[.int .u32 (a:Int),.int .i64 p,.slice A n c,.int .i64 sh,.int .i64 wo,.int .i64 qu,.int .i64 tr],.slice B m d,.agg (opv h s),.func (.func 190) #[] #[.pointer (some ⟨gPO,0,none⟩)]] w1 (RetLoc lo h.n0 (gon a h.n0 xs (erS s 0)) (erL s l 0) m (ys.set lf (drp s.word bt)) true B gPR gPO gPH #[.int .u32 (a:Int),.int .i64 p,.slice A n c,.int .i64 sh,.int .i64 wo,.int .i64 qu,.int .i64 tr] w w1):=by
 have TG:=fun w A2 n2 c2 (hn2:n2≤65001) (hL:Lists lo w ⟨h.A0,h.n0,h.c0,h.A1,h.n1,h.c1,A2,n2,c2,h.A3,h.n3,h.c3⟩ (erL s l 0))=>Lib.hid (goes_any (w:=w) (sh:=sh) (wo:=wo) (qu:=qu) (tr:=tr) (A:=A) (n:=n) (c:=c) (h:=⟨h.A0,h.n0,h.c0,h.A1,h.n1,h.c1,A2,n2,c2,h.A3,h.n3,h.c3⟩) (s:=erS s 0) ha hM hn (hL.asked hx) hin hL h1 (by show n2≤65536;omega) h3)
 have TC:=fun w=>Lib.hid (drop_any s.word bt hw (by omega) w)
 have hyl:drp s.word bt<U64:=drp_lt _ _
 have TFu:=fun w=>Lib.hid (full_any s.word hw w)
 simp only [hfl] at TFu
 clear hfl hw
 have TS:∀ w,US w B m d ys→Hid (Calls Tryz.prog 135 #[.slice B m d,.int .i64 (lf:Nat),.int .u64 (s.word:Nat),.int .u64 (drp s.word bt:Nat)] w (RetSN m (ys.set lf (drp s.word bt)) w)):=fun w U=>by have:=swap_new U hlm hm hyl;rw [heq] at this;exact this
 clear heq hyl
 generalize drp s.word bt=y at TC TS ⊢
 clear ha hM hn hx hin h1 h3
 rcases s with ⟨kind,addr,err,aad,used,phase,shard,sought,leaf,bit,word,full,at_,tries,item,stamp⟩
 rcases h with ⟨A0,n0,c0,A1,n1,c1,A2,n2,c2,A3,n3,c3⟩
 try dsimp only at *
 subst hlf hbt
 obtain ⟨z1,hz1⟩:∃ z,z=w1.heap.size:=⟨_,rfl⟩
 replace L:=L.sz (lo:=z1) (by omega)
 replace hz1:=Lib.hid hz1
 go_enter Tryz.func192,Tryz.ntmps192
 go_upto_region 1 with (fail)
 generalize hal:World.alloc _ _=w6
 replace L:=L.a3 hal
 clear hal
 replace L:=L.is0 (opv hd0 sc0) rfl
 generalize w1.heap.size+1+1=gR at L ⊢
 generalize w1.heap.size+1=gO at L ⊢
 generalize w1.heap.size=gH at L ⊢
 refine rg L fun v7 hHeld=>?_
 replace L:=hHeld
 refine tz 0 13 rfl hHeld ?_
 refine tg 1 14 (.pointer (some ⟨gO,11,none⟩)) rfl hHeld ?_
 refine tC 2 15 1 11 rfl rfl rfl hHeld ?_
 refine tg 3 16 (.pointer (some ⟨gO,13,none⟩)) rfl hHeld ?_
 refine tC 4 17 1 13 rfl rfl rfl hHeld ?_
 refine tg 5 18 (.pointer (some ⟨gO,13,none⟩)) rfl hHeld ?_
 refine tC 6 19 1 13 rfl rfl rfl hHeld ?_
 refine tg 7 20 (.pointer (some ⟨gO,12,none⟩)) rfl hHeld ?_
 refine tC 8 21 1 12 rfl rfl rfl hHeld ?_
 refine rd 9 22 rfl fun K0 hK=>?_
 go_simp
 refine ((TC _).out).mono ?_
 rintro e w' ⟨rfl,rfl⟩
 refine hK.out _ _ L ?_
 clear hHeld hK K0
 intro hHeld
 try simp only [Act.put,sA,sZ,sS]
 refine rd 10 23 rfl fun K0 hK=>?_
 have KZ1:=L.sz_ 0 rfl
 have R0:=L.ri_ 1 rfl
 go_simp
 refine ((TS _ (hU.below L.K)).out).mono ?_
 rintro e w8 ⟨gS,dS,rfl,U,hgS,K'⟩
 have Lb:=L.lts
 replace L:=L.over K'
 replace L:=L.us_av (fun i b e b' o e'=>by injection e' with e';injection e' with e1;have:=Lb i b e;omega) U
 clear Lb
 try dsimp only [lF,List.cons_append,List.nil_append] at L
 have sU:=R0.sep_cells (n':=m) (c:=dS) (ys:=ys.set lf y) hgS
 clear U R0
 replace hgS:=Nat.le_trans KZ1 hgS
 rw [hz1.out] at hgS
 refine hK.out _ _ (L.less 1) ?_
 clear hHeld hK K0
 intro hHeld
 clear K'
 try simp only [Act.put,sA,sZ,sS]
 refine tz 11 12 rfl hHeld ?_
 refine tg 12 24 (.slice (some ⟨gS,0,none⟩) m dS) rfl hHeld ?_
 refine tg 13 25 (.bool true) rfl hHeld ?_
 refine tg 14 1 (.slice (some ⟨gS,0,none⟩) m dS) rfl hHeld ?_
 refine tg 15 11 (.bool true) rfl hHeld ?_
 refine wpAnyH_done (by kernel_rfl) ?_ _
 clear hHeld
 go_wp2_with fail
 replace L:=L.only (fs':=[rF .i64 37 lo A2 n2 c2 l.ers,uF (some ⟨gS,0,none⟩) m dS (ys.set lf y),iF .u32 lo A0 n0 c0 l.rqs,iF .u32 lo A1 n1 c1 l.ads,iF .u64 lo A3 n3 c3 l.ses,zF lo,zF z1]) (by simp)
 refine (told_any (x:=0) L (SepL.cons sU (SepL.cons hs0 (SepL.cons hs1 (SepL.cons hs3 (SepL.cons SepF.z (SepL.cons SepF.z SepL.nil)))))) hlo (L.sz_ 5 rfl) (by show n2≤65000;omega)).mono ?_
 rintro e w9 ⟨A2',n2',c2',rfl,hn2',LN⟩
 replace L:=LN
 replace hn2':n2'≤n2+1:=hn2'
 try dsimp only at L
 go_upto_region 6 with (refine sO 6 33 (L.bk_ 1 rfl) rfl rfl ?_)
 generalize hal:World.setRow _ _ _=w10
 replace L:=L.rr1 hal
 clear hal
 have O_13:=L.at_ 1 13 rfl (v:=.int .u64 ((word:Nat):Int)) rfl
 have O_z:=L.lt 1 rfl
 go_wp2_with fail
 refine ((TFu _).out).mono ?_
 rintro e w' ⟨rfl,rfl⟩
 clear O_13 O_z
 go_wp2_with (first | (refine lC 4 (L.bk_ 2 rfl) ?_) | (refine lO 6 (L.bk_ 1 rfl) ?_))
 have KZ:=L.sz_ 5 rfl
 refine ((TG _ _ _ _ (by omega) (lists_row (L.is_ 2 rfl) (L.is_ 3 rfl) (L.ri_ 0 rfl) (L.is_ 4 rfl))).out).mono ?_
 rintro e w11 ⟨A0',c0',A1',c1',A2'',c2'',A3',c3',rfl,L',K'⟩
 have Lb:=L.lts
 replace L:=L.over K'
 replace L:=L.lists Lb L'
 clear Lb
 try dsimp only [lF,List.cons_append,List.nil_append] at L
 clear L'
 go_wp2_with (refine sO 9 41 (L.bk_ 0 rfl) rfl rfl ?_)
 generalize hal:World.setRow _ _ _=w12
 replace L:=L.rr0 hal
 clear hal
 refine eTCT Tryz.results192 (.slice (some ⟨gS,0,none⟩) m dS) (.bool true) (L.bk_ 0 rfl) ?_
 exact ⟨_,_,_,_,_,_,_,_,_,_,_,_,_,_,rfl,L.us_ 5 rfl,(L.lists_at 0 rfl).lower_ KZ,fun k hk _ b o e=>by injection e with e;injection e with e1;omega,((((L.del 0).del 0).del 0).only (fun f h=>by cases h))⟩
theorem drop_hit (L:Loc w w1 [(gPR,43,opv hd0 sc0),(gPO,43,opv h s),(gPH,27,#[.int .u32 (a:Int),.int .i64 p,.slice A n c,.int .i64 sh,.int .i64 wo,.int .i64 qu,.int .i64 tr])] [rF .i64 37 lo h.A2 h.n2 h.c2 l.ers,iF .u32 lo h.A0 h.n0 h.c0 l.rqs,iF .u32 lo h.A1 h.n1 h.c1 l.ads,iF .u64 lo h.A3 h.n3 h.c3 l.ses,zF lo]) (hs0:SepF (.slice h.A2 h.n2 h.c2) (iF .u32 lo h.A0 h.n0 h.c0 l.rqs)) (hs1:SepF (.slice h.A2 h.n2 h.c2) (iF .u32 lo h.A1 h.n1 h.c1 l.ads)) (hs3:SepF (.slice h.A2 h.n2 h.c2) (iF .u64 lo h.A3 h.n3 h.c3 l.ses)) (hlo:w.heap.size≤lo) (ha:a<4294967296) (hM:Much a p M) (hx:l.rqs=xs) (hn:h.n0≤65536) (hin:s.kind=4→InB a M h.n0 xs) (h1:h.n1≤65536) (h2:h.n2≤65000) (h3:h.n3≤65536) (hU:US w B m d ys) (hlf:s.leaf=(lf:Int)) (hlm:lf<m) (hbt:s.bit=(bt:Int)) (hb5:bt<32) (hm:m≤65536) (hw:s.word<18446744073709551616) (heq:gt ys lf=s.word) :
  Calls Tryz.prog 192 #[.agg #[.int .u32 (a:Int),.int .i64 p,.slice A n c,.int .i64 sh,.int .i64 wo,.int .i64 qu,.int .i64 tr],.slice B m d,.agg (opv h s),.func (.func 190) #[] #[.pointer (some ⟨gPO,0,none⟩)]] w1 (RetLoc lo h.n0 (hitS a h.n0 xs s) (erL s l 0) m (ys.set lf (drp s.word bt)) true B gPR gPO gPH #[.int .u32 (a:Int),.int .i64 p,.slice A n c,.int .i64 sh,.int .i64 wo,.int .i64 qu,.int .i64 tr] w w1):=by
 unfold hitS
 cases hfl:fl s.word with
 | true=>rw [if_pos rfl];exact drop_full L hs0 hs1 hs3 hlo ha hM hx hn hin h1 h2 h3 hU hlf hlm hbt hb5 hm hw heq hfl
 | false=>rw [if_neg Bool.false_ne_true];exact drop_go L hs0 hs1 hs3 hlo ha hM hx hn hin h1 h2 h3 hU hlf hlm hbt hb5 hm hw heq hfl
end
end Go.Proofs.YtfhefofkhmkcnaaGreatDoor

/-
 What drop.Step answers of an operation that reads,or drops. Conditions: a block that may be,an operation whose leaf and bit there are.
-/
namespace Go.Proofs.YtfhefofkhmkcnaaGreatDoor
set_option maxRecDepth 100000
set_option maxRecDepth 100000
open Go.RowKit
set_option maxHeartbeats 8000000
set_option linter.unusedVariables false
theorem gives_yes {k:Int} (hk:k=3∨k=4) (w:World) :
  Calls Tryz.prog 189 #[.int .i64 k] w fun e w'=>e=.returned (.bool true)∧w=w':=by
 rcases hk with rfl | rfl
 ·go_enter Tryz.func189,Tryz.ntmps189
  go_wp2
  go_ret
  exact ⟨rfl,rfl⟩
 ·go_enter Tryz.func189,Tryz.ntmps189
  go_wp2
  go_ret
  exact ⟨rfl,rfl⟩
section
variable {w w1:World} {lo lo2 a M m d lf bt:Nat} {p sh wo qu tr:Int} {A B:Option Addr} {n c:Nat} {xs:List Int} {ys:List Nat} {h:Hd} {s:Sc} {l:Ls}
theorem dstep_used (hL:Lists lo w h l) (ha:a<4294967296) (hM:Much a p M) (hI:IS .u32 lo2 w h.A0 h.n0 h.c0 xs) (hn:h.n0≤65536) (hin:s.kind=4→InB a M h.n0 xs) (h1:h.n1≤65536) (h2:h.n2≤65000) (h3:h.n3≤65536) (hU:US w B m d ys) (hlf:s.leaf=(lf:Int)) (hlm:lf<m) (hbt:s.bit=(bt:Int)) (hb5:bt<32) (hk:s.kind=3∨s.kind=4) (hph:s.phase=8) (hb:(gt ys lf).testBit bt=true) :
  Calls Tryz.prog 188 #[.agg #[.int .u32 (a:Int),.int .i64 p,.slice A n c,.int .i64 sh,.int .i64 wo,.int .i64 qu,.int .i64 tr],.slice B m d,.agg (opv h s)] w (RetStp w.heap.size h.n0 (useS s (gt ys lf)) l m ys false B w):=by
 have TOwn:=fun w (L:Lists lo w h l)=>Lib.hid (own_row (s:=s) L hn h1 (by omega) h3)
 have hm0:0<m:=by omega
 have hx:=hL.i0.uniq hI
 have TK:=fun w1 gPR gPO gPH lo A0 c0 A1 c1 A2 c2 A3 c3 (L:Loc w w1 [(gPR,43,opv hd0 sc0),(gPO,43,opv ⟨A0,h.n0,c0,A1,h.n1,c1,A2,h.n2,c2,A3,h.n3,c3⟩ s),(gPH,27,#[.int .u32 (a:Int),.int .i64 p,.slice A n c,.int .i64 sh,.int .i64 wo,.int .i64 qu,.int .i64 tr])] [rF .i64 37 lo A2 h.n2 c2 l.ers,iF .u32 lo A0 h.n0 c0 l.rqs,iF .u32 lo A1 h.n1 c1 l.ads,iF .u64 lo A3 h.n3 c3 l.ses,zF lo]) (hs0:SepF (.slice A2 h.n2 c2) (iF .u32 lo A0 h.n0 c0 l.rqs)) (hs1:SepF (.slice A2 h.n2 c2) (iF .u32 lo A1 h.n1 c1 l.ads)) (hs3:SepF (.slice A2 h.n2 c2) (iF .u64 lo A3 h.n3 c3 l.ses)) (hlo:w.heap.size≤lo)=>Lib.hid (read_used (h:=⟨A0,h.n0,c0,A1,h.n1,c1,A2,h.n2,c2,A3,h.n3,c3⟩) (s:=s) L hs0 hs1 hs3 hlo ha hM hx hn hin h1 h2 h3 hU hlf hlm hbt hb5 hb)
 clear hx
 rcases s with ⟨kind,addr,err,aad,used,phase,shard,sought,leaf,bit,word,full,at_,tries,item,stamp⟩
 rcases h with ⟨A0,n0,c0,A1,n1,c1,A2,n2,c2,A3,n3,c3⟩
 try dsimp only at *
 subst hph hlf hbt
 go_enter Tryz.func188,Tryz.ntmps188
 go_upto_region 1 with (fail)
 have L:=Loc.start w
 generalize hal:World.alloc _ _=w1
 replace L:=L.a3 hal
 clear hal
 replace L:=L.is0 (opv hd0 sc0) rfl
 generalize w.heap.size+1+1=gR at L ⊢
 generalize w.heap.size+1=gO at L ⊢
 generalize w.heap.size=gH at L ⊢
 go_wp2_with (refine lO 5 (L.bk_ 1 rfl) ?_)
 have KS:=L.K.size
 have LbO:=L.gs
 refine ((TOwn _ (hL.below L.K)).out).mono ?_
 rintro e w2 ⟨A0',c0',A1',c1',A2',c2',A3',c3',rfl,I0,I1,R2,I3,hs0,hs1,hs3,K'⟩
 have Lb:=L.lts
 replace L:=L.over K'
 replace L:=L.sz K'.size
 replace L:=L.is_new Lb I3
 replace L:=L.is_new Lb I1
 replace L:=L.is_new Lb I0
 replace L:=L.ri_new Lb R2
 clear Lb
 try dsimp only [lF,List.cons_append,List.nil_append] at L
 clear I0 I1 R2 I3
 go_upto_region 2 with (refine sO 5 11 (L.bk_ 1 rfl) rfl rfl ?_)
 generalize hal:World.setRow _ _ _=w3
 replace L:=L.rr1 hal
 clear hal
 have O_0:=L.at_ 1 0 rfl (v:=.int .i64 kind) rfl
 have O_z:=L.lt 1 rfl
 go_wp2_with fail
 refine (gives_yes hk _).mono ?_
 rintro e w' ⟨rfl,rfl⟩
 clear O_0 O_z
 have O_8:=L.at_ 1 8 rfl (v:=.int .i64 8) rfl
 have O_z:=L.lt 1 rfl
 go_wp2_with (first | (refine lC 3 (L.bk_ 2 rfl) ?_) | (refine lO 5 (L.bk_ 1 rfl) ?_))
 have KS2:=L.K.size
 have LbC:=L.gs
 refine ((TK _ _ _ _ _ _ _ _ _ _ _ _ _ L hs0 hs1 hs3 KS).out).mono ?_
 rintro e w4 ⟨A0'',c0'',A1'',n1'',c1'',A2'',n2'',c2'',A3'',n3'',c3'',B'',d'',zO,rfl,U,L',hA,LN⟩
 clear O_8 O_z
 replace L:=LN.us_new LbC hA hU hm0 U
 replace L:=L.lists' LbO L'
 try dsimp only [lF,List.cons_append,List.nil_append] at L
 clear LN U L' LbC
 go_wp2_with (refine sO 7 30 (L.bk_ 0 rfl) rfl rfl ?_)
 generalize hal:World.setRow _ _ _=w5
 replace L:=L.rr0 hal
 clear hal
 refine eTCT Tryz.results188 (.slice B'' m d'') (.bool false) (L.bk_ 0 rfl) ?_
 exact ⟨_,_,_,_,_,_,_,_,_,_,_,_,_,rfl,L.us_ 4 rfl,(L.lists_at 0 rfl).lower_ KS,fun k hk=>hA k (Nat.lt_of_lt_of_le hk KS2),L.K⟩
theorem dstep_free (hL:Lists lo w h l) (ha:a<4294967296) (hM:Much a p M) (hI:IS .u32 lo2 w h.A0 h.n0 h.c0 xs) (hn:h.n0≤65536) (hin:s.kind=4→InB a M h.n0 xs) (h1:h.n1≤65536) (h2:h.n2≤65000) (h3:h.n3≤65536) (hU:US w B m d ys) (hlf:s.leaf=(lf:Int)) (hlm:lf<m) (hbt:s.bit=(bt:Int)) (hb5:bt<32) (hk:s.kind=3∨s.kind=4) (hph:s.phase=8) (hb:(gt ys lf).testBit bt=false) :
  Calls Tryz.prog 188 #[.agg #[.int .u32 (a:Int),.int .i64 p,.slice A n c,.int .i64 sh,.int .i64 wo,.int .i64 qu,.int .i64 tr],.slice B m d,.agg (opv h s)] w (RetStp w.heap.size h.n0 (freeS a h.n0 xs s) (erL s l 6) m ys true B w):=by
 have TOwn:=fun w (L:Lists lo w h l)=>Lib.hid (own_row (s:=s) L hn h1 (by omega) h3)
 have hm0:0<m:=by omega
 have hx:=hL.i0.uniq hI
 have TK:=fun w1 gPR gPO gPH lo A0 c0 A1 c1 A2 c2 A3 c3 (L:Loc w w1 [(gPR,43,opv hd0 sc0),(gPO,43,opv ⟨A0,h.n0,c0,A1,h.n1,c1,A2,h.n2,c2,A3,h.n3,c3⟩ s),(gPH,27,#[.int .u32 (a:Int),.int .i64 p,.slice A n c,.int .i64 sh,.int .i64 wo,.int .i64 qu,.int .i64 tr])] [rF .i64 37 lo A2 h.n2 c2 l.ers,iF .u32 lo A0 h.n0 c0 l.rqs,iF .u32 lo A1 h.n1 c1 l.ads,iF .u64 lo A3 h.n3 c3 l.ses,zF lo]) (hs0:SepF (.slice A2 h.n2 c2) (iF .u32 lo A0 h.n0 c0 l.rqs)) (hs1:SepF (.slice A2 h.n2 c2) (iF .u32 lo A1 h.n1 c1 l.ads)) (hs3:SepF (.slice A2 h.n2 c2) (iF .u64 lo A3 h.n3 c3 l.ses)) (hlo:w.heap.size≤lo)=>Lib.hid (read_free (h:=⟨A0,h.n0,c0,A1,h.n1,c1,A2,h.n2,c2,A3,h.n3,c3⟩) (s:=s) L hs0 hs1 hs3 hlo ha hM hx hn hin h1 h2 h3 hU hlf hlm hbt hb5 hb)
 clear hx
 rcases s with ⟨kind,addr,err,aad,used,phase,shard,sought,leaf,bit,word,full,at_,tries,item,stamp⟩
 rcases h with ⟨A0,n0,c0,A1,n1,c1,A2,n2,c2,A3,n3,c3⟩
 try dsimp only at *
 subst hph hlf hbt
 go_enter Tryz.func188,Tryz.ntmps188
 go_upto_region 1 with (fail)
 have L:=Loc.start w
 generalize hal:World.alloc _ _=w1
 replace L:=L.a3 hal
 clear hal
 replace L:=L.is0 (opv hd0 sc0) rfl
 generalize w.heap.size+1+1=gR at L ⊢
 generalize w.heap.size+1=gO at L ⊢
 generalize w.heap.size=gH at L ⊢
 go_wp2_with (refine lO 5 (L.bk_ 1 rfl) ?_)
 have KS:=L.K.size
 have LbO:=L.gs
 refine ((TOwn _ (hL.below L.K)).out).mono ?_
 rintro e w2 ⟨A0',c0',A1',c1',A2',c2',A3',c3',rfl,I0,I1,R2,I3,hs0,hs1,hs3,K'⟩
 have Lb:=L.lts
 replace L:=L.over K'
 replace L:=L.sz K'.size
 replace L:=L.is_new Lb I3
 replace L:=L.is_new Lb I1
 replace L:=L.is_new Lb I0
 replace L:=L.ri_new Lb R2
 clear Lb
 try dsimp only [lF,List.cons_append,List.nil_append] at L
 clear I0 I1 R2 I3
 go_upto_region 2 with (refine sO 5 11 (L.bk_ 1 rfl) rfl rfl ?_)
 generalize hal:World.setRow _ _ _=w3
 replace L:=L.rr1 hal
 clear hal
 have O_0:=L.at_ 1 0 rfl (v:=.int .i64 kind) rfl
 have O_z:=L.lt 1 rfl
 go_wp2_with fail
 refine (gives_yes hk _).mono ?_
 rintro e w' ⟨rfl,rfl⟩
 clear O_0 O_z
 have O_8:=L.at_ 1 8 rfl (v:=.int .i64 8) rfl
 have O_z:=L.lt 1 rfl
 go_wp2_with (first | (refine lC 3 (L.bk_ 2 rfl) ?_) | (refine lO 5 (L.bk_ 1 rfl) ?_))
 have KS2:=L.K.size
 have LbC:=L.gs
 refine ((TK _ _ _ _ _ _ _ _ _ _ _ _ _ L hs0 hs1 hs3 KS).out).mono ?_
 rintro e w4 ⟨A0'',c0'',A1'',n1'',c1'',A2'',n2'',c2'',A3'',n3'',c3'',B'',d'',zO,rfl,U,L',hA,LN⟩
 clear O_8 O_z
 replace L:=LN.us_new LbC hA hU hm0 U
 replace L:=L.lists' LbO L'
 try dsimp only [lF,List.cons_append,List.nil_append] at L
 clear LN U L' LbC
 go_wp2_with (refine sO 7 30 (L.bk_ 0 rfl) rfl rfl ?_)
 generalize hal:World.setRow _ _ _=w5
 replace L:=L.rr0 hal
 clear hal
 refine eTCT Tryz.results188 (.slice B'' m d'') (.bool true) (L.bk_ 0 rfl) ?_
 exact ⟨_,_,_,_,_,_,_,_,_,_,_,_,_,rfl,L.us_ 4 rfl,(L.lists_at 0 rfl).lower_ KS,fun k hk=>hA k (Nat.lt_of_lt_of_le hk KS2),L.K⟩
theorem dstep_miss (hL:Lists lo w h l) (ha:a<4294967296) (hM:Much a p M) (hI:IS .u32 lo2 w h.A0 h.n0 h.c0 xs) (hn:h.n0≤65536) (hin:s.kind=4→InB a M h.n0 xs) (h1:h.n1≤65536) (h2:h.n2≤65000) (h3:h.n3≤65536) (hU:US w B m d ys) (hlf:s.leaf=(lf:Int)) (hlm:lf<m) (hbt:s.bit=(bt:Int)) (hb5:bt<32) (hk:s.kind=3∨s.kind=4) (hph:s.phase=9) (hm:m≤65536) (hw:s.word<18446744073709551616) (hne:gt ys lf≠s.word) :
  Calls Tryz.prog 188 #[.agg #[.int .u32 (a:Int),.int .i64 p,.slice A n c,.int .i64 sh,.int .i64 wo,.int .i64 qu,.int .i64 tr],.slice B m d,.agg (opv h s)] w (RetStp w.heap.size h.n0 (rdS s) l m ys false B w):=by
 have TOwn:=fun w (L:Lists lo w h l)=>Lib.hid (own_row (s:=s) L hn h1 (by omega) h3)
 have hm0:0<m:=by omega
 have hx:=hL.i0.uniq hI
 have TK:=fun w1 gPR gPO gPH lo A0 c0 A1 c1 A2 c2 A3 c3 (L:Loc w w1 [(gPR,43,opv hd0 sc0),(gPO,43,opv ⟨A0,h.n0,c0,A1,h.n1,c1,A2,h.n2,c2,A3,h.n3,c3⟩ s),(gPH,27,#[.int .u32 (a:Int),.int .i64 p,.slice A n c,.int .i64 sh,.int .i64 wo,.int .i64 qu,.int .i64 tr])] [rF .i64 37 lo A2 h.n2 c2 l.ers,iF .u32 lo A0 h.n0 c0 l.rqs,iF .u32 lo A1 h.n1 c1 l.ads,iF .u64 lo A3 h.n3 c3 l.ses,zF lo]) (hs0:SepF (.slice A2 h.n2 c2) (iF .u32 lo A0 h.n0 c0 l.rqs)) (hs1:SepF (.slice A2 h.n2 c2) (iF .u32 lo A1 h.n1 c1 l.ads)) (hs3:SepF (.slice A2 h.n2 c2) (iF .u64 lo A3 h.n3 c3 l.ses)) (hlo:w.heap.size≤lo)=>Lib.hid (drop_not (h:=⟨A0,h.n0,c0,A1,h.n1,c1,A2,h.n2,c2,A3,h.n3,c3⟩) (s:=s) L hs0 hs1 hs3 hlo ha hM hx hn hin h1 h2 h3 hU hlf hlm hbt hb5 hm hw hne)
 clear hx
 rcases s with ⟨kind,addr,err,aad,used,phase,shard,sought,leaf,bit,word,full,at_,tries,item,stamp⟩
 rcases h with ⟨A0,n0,c0,A1,n1,c1,A2,n2,c2,A3,n3,c3⟩
 try dsimp only at *
 subst hph hlf hbt
 go_enter Tryz.func188,Tryz.ntmps188
 go_upto_region 1 with (fail)
 have L:=Loc.start w
 generalize hal:World.alloc _ _=w1
 replace L:=L.a3 hal
 clear hal
 replace L:=L.is0 (opv hd0 sc0) rfl
 generalize w.heap.size+1+1=gR at L ⊢
 generalize w.heap.size+1=gO at L ⊢
 generalize w.heap.size=gH at L ⊢
 go_wp2_with (refine lO 5 (L.bk_ 1 rfl) ?_)
 have KS:=L.K.size
 have LbO:=L.gs
 refine ((TOwn _ (hL.below L.K)).out).mono ?_
 rintro e w2 ⟨A0',c0',A1',c1',A2',c2',A3',c3',rfl,I0,I1,R2,I3,hs0,hs1,hs3,K'⟩
 have Lb:=L.lts
 replace L:=L.over K'
 replace L:=L.sz K'.size
 replace L:=L.is_new Lb I3
 replace L:=L.is_new Lb I1
 replace L:=L.is_new Lb I0
 replace L:=L.ri_new Lb R2
 clear Lb
 try dsimp only [lF,List.cons_append,List.nil_append] at L
 clear I0 I1 R2 I3
 go_upto_region 2 with (refine sO 5 11 (L.bk_ 1 rfl) rfl rfl ?_)
 generalize hal:World.setRow _ _ _=w3
 replace L:=L.rr1 hal
 clear hal
 have O_0:=L.at_ 1 0 rfl (v:=.int .i64 kind) rfl
 have O_z:=L.lt 1 rfl
 go_wp2_with fail
 refine (gives_yes hk _).mono ?_
 rintro e w' ⟨rfl,rfl⟩
 clear O_0 O_z
 have O_8:=L.at_ 1 8 rfl (v:=.int .i64 9) rfl
 have O_z:=L.lt 1 rfl
 go_wp2_with (first | (refine lC 3 (L.bk_ 2 rfl) ?_) | (refine lO 5 (L.bk_ 1 rfl) ?_))
 have KS2:=L.K.size
 have LbC:=L.gs
 refine ((TK _ _ _ _ _ _ _ _ _ _ _ _ _ L hs0 hs1 hs3 KS).out).mono ?_
 rintro e w4 ⟨A0'',c0'',A1'',n1'',c1'',A2'',n2'',c2'',A3'',n3'',c3'',B'',d'',zO,rfl,U,L',hA,LN⟩
 clear O_8 O_z
 replace L:=LN.us_new LbC hA hU hm0 U
 replace L:=L.lists' LbO L'
 try dsimp only [lF,List.cons_append,List.nil_append] at L
 clear LN U L' LbC
 go_wp2_with (refine sO 7 40 (L.bk_ 0 rfl) rfl rfl ?_)
 generalize hal:World.setRow _ _ _=w5
 replace L:=L.rr0 hal
 clear hal
 refine eTCT Tryz.results188 (.slice B'' m d'') (.bool false) (L.bk_ 0 rfl) ?_
 exact ⟨_,_,_,_,_,_,_,_,_,_,_,_,_,rfl,L.us_ 4 rfl,(L.lists_at 0 rfl).lower_ KS,fun k hk=>hA k (Nat.lt_of_lt_of_le hk KS2),L.K⟩
theorem dstep_hit (hL:Lists lo w h l) (ha:a<4294967296) (hM:Much a p M) (hI:IS .u32 lo2 w h.A0 h.n0 h.c0 xs) (hn:h.n0≤65536) (hin:s.kind=4→InB a M h.n0 xs) (h1:h.n1≤65536) (h2:h.n2≤65000) (h3:h.n3≤65536) (hU:US w B m d ys) (hlf:s.leaf=(lf:Int)) (hlm:lf<m) (hbt:s.bit=(bt:Int)) (hb5:bt<32) (hk:s.kind=3∨s.kind=4) (hph:s.phase=9) (hm:m≤65536) (hw:s.word<18446744073709551616) (heq:gt ys lf=s.word) :
  Calls Tryz.prog 188 #[.agg #[.int .u32 (a:Int),.int .i64 p,.slice A n c,.int .i64 sh,.int .i64 wo,.int .i64 qu,.int .i64 tr],.slice B m d,.agg (opv h s)] w (RetStp w.heap.size h.n0 (hitS a h.n0 xs s) (erL s l 0) m (ys.set lf (drp s.word bt)) true B w):=by
 have TOwn:=fun w (L:Lists lo w h l)=>Lib.hid (own_row (s:=s) L hn h1 (by omega) h3)
 have hm0:0<m:=by omega
 have hx:=hL.i0.uniq hI
 have TK:=fun w1 gPR gPO gPH lo A0 c0 A1 c1 A2 c2 A3 c3 (L:Loc w w1 [(gPR,43,opv hd0 sc0),(gPO,43,opv ⟨A0,h.n0,c0,A1,h.n1,c1,A2,h.n2,c2,A3,h.n3,c3⟩ s),(gPH,27,#[.int .u32 (a:Int),.int .i64 p,.slice A n c,.int .i64 sh,.int .i64 wo,.int .i64 qu,.int .i64 tr])] [rF .i64 37 lo A2 h.n2 c2 l.ers,iF .u32 lo A0 h.n0 c0 l.rqs,iF .u32 lo A1 h.n1 c1 l.ads,iF .u64 lo A3 h.n3 c3 l.ses,zF lo]) (hs0:SepF (.slice A2 h.n2 c2) (iF .u32 lo A0 h.n0 c0 l.rqs)) (hs1:SepF (.slice A2 h.n2 c2) (iF .u32 lo A1 h.n1 c1 l.ads)) (hs3:SepF (.slice A2 h.n2 c2) (iF .u64 lo A3 h.n3 c3 l.ses)) (hlo:w.heap.size≤lo)=>Lib.hid (drop_hit (h:=⟨A0,h.n0,c0,A1,h.n1,c1,A2,h.n2,c2,A3,h.n3,c3⟩) (s:=s) L hs0 hs1 hs3 hlo ha hM hx hn hin h1 h2 h3 hU hlf hlm hbt hb5 hm hw heq)
 clear hx
 rcases s with ⟨kind,addr,err,aad,used,phase,shard,sought,leaf,bit,word,full,at_,tries,item,stamp⟩
 rcases h with ⟨A0,n0,c0,A1,n1,c1,A2,n2,c2,A3,n3,c3⟩
 try dsimp only at *
 subst hph hlf hbt
 go_enter Tryz.func188,Tryz.ntmps188
 go_upto_region 1 with (fail)
 have L:=Loc.start w
 generalize hal:World.alloc _ _=w1
 replace L:=L.a3 hal
 clear hal
 replace L:=L.is0 (opv hd0 sc0) rfl
 generalize w.heap.size+1+1=gR at L ⊢
 generalize w.heap.size+1=gO at L ⊢
 generalize w.heap.size=gH at L ⊢
 go_wp2_with (refine lO 5 (L.bk_ 1 rfl) ?_)
 have KS:=L.K.size
 have LbO:=L.gs
 refine ((TOwn _ (hL.below L.K)).out).mono ?_
 rintro e w2 ⟨A0',c0',A1',c1',A2',c2',A3',c3',rfl,I0,I1,R2,I3,hs0,hs1,hs3,K'⟩
 have Lb:=L.lts
 replace L:=L.over K'
 replace L:=L.sz K'.size
 replace L:=L.is_new Lb I3
 replace L:=L.is_new Lb I1
 replace L:=L.is_new Lb I0
 replace L:=L.ri_new Lb R2
 clear Lb
 try dsimp only [lF,List.cons_append,List.nil_append] at L
 clear I0 I1 R2 I3
 go_upto_region 2 with (refine sO 5 11 (L.bk_ 1 rfl) rfl rfl ?_)
 generalize hal:World.setRow _ _ _=w3
 replace L:=L.rr1 hal
 clear hal
 have O_0:=L.at_ 1 0 rfl (v:=.int .i64 kind) rfl
 have O_z:=L.lt 1 rfl
 go_wp2_with fail
 refine (gives_yes hk _).mono ?_
 rintro e w' ⟨rfl,rfl⟩
 clear O_0 O_z
 have O_8:=L.at_ 1 8 rfl (v:=.int .i64 9) rfl
 have O_z:=L.lt 1 rfl
 go_wp2_with (first | (refine lC 3 (L.bk_ 2 rfl) ?_) | (refine lO 5 (L.bk_ 1 rfl) ?_))
 have KS2:=L.K.size
 have LbC:=L.gs
 refine ((TK _ _ _ _ _ _ _ _ _ _ _ _ _ L hs0 hs1 hs3 KS).out).mono ?_
 rintro e w4 ⟨A0'',c0'',A1'',n1'',c1'',A2'',n2'',c2'',A3'',n3'',c3'',B'',d'',zO,rfl,U,L',hA,LN⟩
 clear O_8 O_z
 replace L:=LN.us_new LbC hA hU hm0 U
 replace L:=L.lists' LbO L'
 try dsimp only [lF,List.cons_append,List.nil_append] at L
 clear LN U L' LbC
 go_wp2_with (refine sO 7 40 (L.bk_ 0 rfl) rfl rfl ?_)
 generalize hal:World.setRow _ _ _=w5
 replace L:=L.rr0 hal
 clear hal
 refine eTCT Tryz.results188 (.slice B'' m d'') (.bool true) (L.bk_ 0 rfl) ?_
 exact ⟨_,_,_,_,_,_,_,_,_,_,_,_,_,rfl,L.us_ 4 rfl,(L.lists_at 0 rfl).lower_ KS,fun k hk=>hA k (Nat.lt_of_lt_of_le hk KS2),L.K⟩
end
end Go.Proofs.YtfhefofkhmkcnaaGreatDoor

/-
 What the document's own Addrs and May of layer 9 answer: the same as the program's;nothing that was there is otherwise.
-/
namespace Go.Proofs.YtfhefofkhmkcnaaGreatDoor
set_option maxRecDepth 100000
set_option maxRecDepth 100000
open Go.RowKit
set_option maxHeartbeats 8000000
theorem oper_append_run {P:Program} {w:World} {o:Oper} {a:Act} {K:Act→World→Prop} {Q:Exit→Act→World→Prop} (s x:Operand) (t:TypeId)
  (ho:o.op=.call { callee:=.builtin .append,args:=#[s,x],argTypes:=#[t,t] }) (u v v':Value) (w':World) (hs:a.eval s=u) (hx:a.eval x=v)
  (hrun:(Builtin.append_ #[t,t] o.type #[u,v]).run P w=.ok v' w') (h:K (a.put o.dst v') w'):Oper.wp P o a w K Q:=by
 unfold Oper.wp
 simp [execOp,ho,resolve,invoke,builtin,hs,hx,hrun,Result.andThen]
 exact h
section
variable {w:World} {lo lo2 a M:Nat} {p sh wo qu tr:Int} {A B:Option Addr} {n c m d:Nat} {zs xs:List Int}
end
end Go.Proofs.YtfhefofkhmkcnaaGreatDoor

/-
 With,Without and Addrs,by the program and by the document,with where the answer lies: in memory of the call's own. Conditions: rising sets,of at most 65535 numbers;With of a number that isn't in,Without of one that is.
-/
namespace Go.Proofs.YtfhefofkhmkcnaaGreatDoor
set_option maxRecDepth 100000
set_option maxRecDepth 100000
open Go.RowKit
set_option maxHeartbeats 8000000
/-- A list is answered that lies in memory of the call's own. -/
def RetF (k:IntKind) (xs:List Int) (w:World) (e:Ending) (w':World):Prop:=∃ A n c,e=.returned (.slice A n c)∧IS k w.heap.size w' A n c xs∧Below w.heap.size w w'
section
variable {lo:Nat} {w:World} {A:Option Addr} {n c:Nat} {xs:List Int}
theorem rwithout_new (h:IS .i64 lo w A n c xs) (hn:n<65536) (x:Int) :
  Calls Tryz.prog 46 #[.slice A n c,.int .i64 x] w (RetF .i64 (del xs x) w):=by
 have hl:=h.len
 go_enter Tryz.func46,Tryz.ntmps46
 go_wp2
 go_loopw [5,6] (fun s i wr=>∃ (k q e:Nat) (C:Option Addr),k≤n∧i=.int .i64 k∧s=.slice C q e∧Hid (Ri .i64 3 wr w.heap.size (.slice C q e) q (del (xs.take k) x))∧Below w.heap.size w wr) (fun _ i _=>n - (intOf i).toNat)
 case atStart=>exact ⟨0,0,0,none,Nat.zero_le _,rfl,rfl,Lib.hid (Ri.nil _ _),Below.refl _ _⟩
 case round =>
  obtain ⟨k,q,e,C,hk,rfl,rfl,HR,Kr⟩:=hrel
  by_cases hlt:k<n
  ·obtain ⟨b,o,rfl,_,hc⟩:=(h.below Kr).get hlt
   have hq:=len_del (xs.take k) x
   rw [HR.out.len,List.length_take] at hq
   have hq2:q+1≤65536:=by omega
   have ht:=Lib.hid ((congrArg (fun l=>del l x) (take_gi (xs:=xs) (j:=k) (by omega))).trans (del_snoc _ _ _))
   clear hq
   generalize gi xs k=y at *
   by_cases he:y=x
   ·have e1:(y != x)=false:=by simp [he]
    have HR2:=HR.out
    rw [← (show del (xs.take (k+1)) x=del (xs.take k) x by have:=ht.out;rw [if_pos he,List.append_nil] at this;exact this)] at HR2
    replace HR2:=Lib.hid HR2
    clear he ht HR
    go_wp2
    go_roundw
    case rel=>exact ⟨k+1,q,e,C,by omega,by go_num,rfl,HR2,Kr⟩
    case measure=>simp [intOf];omega
   ·have e1:(y != x)=true:=by simpa using he
    obtain ⟨i0,hi,hz0,hz1,hz2⟩:=info_parts int_info
    obtain ⟨C2,e2,w5,hap,R5,K5⟩:=run_app1 (P:=Tryz.prog) (x:=y) Tryz.underlying25 hi hz0 hz1 (by omega) HR.out hq2 Kr.size 25
    have HA:=Lib.hid hap
    have HR2:=R5
    rw [← (show del (xs.take (k+1)) x=del (xs.take k) x ++ [y] by have:=ht.out;rw [if_neg he] at this;exact this)] at HR2
    replace HR2:=Lib.hid HR2
    have K6:=Kr.trans K5
    clear he ht HR hap R5 K5 hi hz0 hz1 hz2 hq2
    go_wp2_with (at_builtin;refine wpList_append_run rfl (.tmp 19) (.tmp 24) 25 rfl _ _ _ _ rfl rfl HA.out ?_)
    go_roundw
    case rel=>exact ⟨k+1,q+1,e2,C2,by omega,by go_num,rfl,HR2,K6⟩
    case measure=>simp [intOf];omega
  ·have HR2:=HR.out
   rw [List.take_of_length_le (by omega)] at HR2
   have I:=Lib.hid HR2.is
   clear HR HR2
   go_wp2
   go_ret
   exact ⟨_,_,_,rfl,I.out,Kr⟩
theorem rwith_newS (h:IS .i64 lo w A n c xs) (hn:n<65536) (hr:Ris xs) (x:Int) :
  Calls Tryz.prog 45 #[.slice A n c,.int .i64 x] w (RetF .i64 (ins xs x) w):=by
 have hl:=h.len
 replace hr:=Lib.hid hr
 go_enter Tryz.func45,Tryz.ntmps45
 go_wp2
 go_loopw [5,6,7] (fun s dn i wr=>∃ (k q e:Nat) (C:Option Addr) (b:Bool),k≤n∧i=.int .i64 k∧s=.slice C q e∧dn=.bool b∧Hid ((b=true→∃ j,j<k∧x≤gi xs j)∧(b=false→∀ j,j<k→gi xs j<x))∧Hid (Ri .i64 3 wr w.heap.size (.slice C q e) q (if b=true then ins (xs.take k) x else xs.take k))∧Below w.heap.size w wr) (fun _ _ i _=>n - (intOf i).toNat)
 case atStart=>exact ⟨0,0,0,none,false,Nat.zero_le _,rfl,rfl,rfl,⟨(fun e=>by cases e),fun _ j hj=>by omega⟩,Lib.hid (Ri.nil _ _),Below.refl _ _⟩
 case round =>
  obtain ⟨k,q,e,C,dn,hk,rfl,rfl,rfl,HD,HR,Kr⟩:=hrel
  by_cases hlt:k<n
  ·obtain ⟨b,o,rfl,_,hc⟩:=(h.below Kr).get hlt
   have ht:=Lib.hid (take_gi (xs:=xs) (j:=k) (by omega))
   have hrt:=Lib.hid (ris_take hr.out (k+1))
   obtain ⟨i0,hi,hz0,hz1,hz2⟩:=info_parts int_info
   have hql:q≤k+1:=by
    have h1:=HR.out.len
    have h2:=len_ins (xs:=xs.take k) x
    rw [List.length_take] at h2
    split at h1
    ·omega
    ·rw [List.length_take] at h1;omega
   cases dn with
   | true =>
    obtain ⟨j,hj,hxj⟩:=HD.out.1 rfl
    have hgt:x<gi xs k:=by have:=hr.out.lt hj (by omega);omega
    obtain ⟨C2,e2,w5,hap,R5,K5⟩:=run_app1 (P:=Tryz.prog) (x:=gi xs k) Tryz.underlying25 hi hz0 hz1 (by omega) HR.out (by omega) Kr.size 25
    have HA:=Lib.hid hap
    have E:ins (xs.take k) x ++ [gi xs k]=ins (xs.take (k+1)) x:=by
     have:=hrt.out
     rw [ht.out] at this ⊢
     exact ins_snoc this hgt
    have HR2:Hid (Ri .i64 3 w5 w.heap.size (.slice C2 (q+1) e2) (q+1) (if true=true then ins (xs.take (k+1)) x else xs.take (k+1))):=by
     rw [if_pos rfl] at R5 ⊢
     rw [E] at R5
     exact R5
    have HD2:Hid ((true=true→∃ j,j<k+1∧x≤gi xs j)∧(true=false→∀ j,j<k+1→gi xs j<x)):=⟨fun _=>⟨j,by omega,hxj⟩,fun e=>by cases e⟩
    have K6:=Kr.trans K5
    clear HR hap R5 K5 hi hz0 hz1 hz2 HD E ht hrt hgt hxj
    generalize gi xs k=y at *
    go_wp2_with (at_builtin;refine wpList_append_run rfl (.tmp 34) (.tmp 39) 25 rfl _ _ _ _ rfl rfl HA.out ?_)
    go_roundw
    case rel=>exact ⟨k+1,q+1,e2,C2,true,by omega,by go_num,rfl,rfl,HD2,HR2,K6⟩
    case measure=>simp [intOf];omega
   | false =>
    have hb:=HD.out.2 rfl
    have hqk:q=k:=by
     have h1:=HR.out.len
     rw [if_neg (by simp),List.length_take] at h1
     omega
    subst hqk
    by_cases h1:gi xs q<x
    ·obtain ⟨C2,e2,w5,hap,R5,K5⟩:=run_app1 (P:=Tryz.prog) (x:=gi xs q) Tryz.underlying25 hi hz0 hz1 (by omega) HR.out (by omega) Kr.size 25
     have HA:=Lib.hid hap
     have HR2:Hid (Ri .i64 3 w5 w.heap.size (.slice C2 (q+1) e2) (q+1) (if false=true then ins (xs.take (q+1)) x else xs.take (q+1))):=by
      rw [if_neg (by simp)] at R5 ⊢
      rw [ht.out]
      exact R5
     have HD2:Hid ((false=true→∃ j,j<q+1∧x≤gi xs j)∧(false=false→∀ j,j<q+1→gi xs j<x)):=⟨(fun e=>by cases e),fun _ j hj=>by
      rcases Nat.lt_or_ge j q with g | g
      ·exact hb j g
      ·obtain rfl:j=q:=by omega
       exact h1⟩
     have K6:=Kr.trans K5
     have e1:decide (x≤gi xs q)=false:=by simpa using h1
     clear HR hap R5 K5 hi hz0 hz1 hz2 HD ht hrt h1 hb
     generalize gi xs q=y at *
     go_wp2_with (at_builtin;refine wpList_append_run rfl (.tmp 34) (.tmp 39) 25 rfl _ _ _ _ rfl rfl HA.out ?_)
     go_roundw
     case rel=>exact ⟨q+1,q+1,e2,C2,false,by omega,by go_num,rfl,rfl,HD2,HR2,K6⟩
     case measure=>simp [intOf];omega
    ·have e1:decide (x≤gi xs q)=true:=by simp;omega
     have HD2:Hid ((true=true→∃ j,j<q+1∧x≤gi xs j)∧(true=false→∀ j,j<q+1→gi xs j<x)):=⟨fun _=>⟨q,by omega,by omega⟩,fun e=>by cases e⟩
     by_cases h2:gi xs q=x
     ·obtain ⟨C2,e2,w5,hap,R5,K5⟩:=run_app1 (P:=Tryz.prog) (x:=gi xs q) Tryz.underlying25 hi hz0 hz1 (by omega) HR.out (by omega) Kr.size 25
      have HA:=Lib.hid hap
      have HR2:Hid (Ri .i64 3 w5 w.heap.size (.slice C2 (q+1) e2) (q+1) (if true=true then ins (xs.take (q+1)) x else xs.take (q+1))):=by
       rw [if_pos rfl,ins_in hrt.out (hasB_iff.2 ((mem_take_gi (by omega)).2 ⟨q,by omega,h2⟩)),ht.out]
       rw [if_neg (by simp)] at R5
       exact R5
      have K6:=Kr.trans K5
      have e3:decide (x<gi xs q)=false:=by simp;omega
      clear HR hap R5 K5 hi hz0 hz1 hz2 HD ht hrt h1 h2 hb
      generalize gi xs q=y at *
      go_wp2_with (at_builtin;refine wpList_append_run rfl (.tmp 34) (.tmp 39) 25 rfl _ _ _ _ rfl rfl HA.out ?_)
      go_roundw
      case rel=>exact ⟨q+1,q+1,e2,C2,true,by omega,by go_num,rfl,rfl,HD2,HR2,K6⟩
      case measure=>simp [intOf];omega
     ·obtain ⟨C1,d1,w4,hap1,R4,K4⟩:=run_app1 (P:=Tryz.prog) (x:=x) Tryz.underlying25 hi hz0 hz1 (by omega) HR.out (by omega) Kr.size 25
      have K45:=Kr.trans K4
      obtain ⟨C2,e2,w5,hap,R5,K5⟩:=run_app1 (P:=Tryz.prog) (x:=gi xs q) Tryz.underlying25 hi hz0 hz1 (by omega) R4 (by omega) K45.size 25
      have HA1:=Lib.hid hap1
      have HA:=Lib.hid hap
      have HR2:Hid (Ri .i64 3 w5 w.heap.size (.slice C2 (q+1+1) e2) (q+1+1) (if true=true then ins (xs.take (q+1)) x else xs.take (q+1))):=by
       have hrq:=hrt.out
       rw [if_pos rfl,ht.out]
       rw [ht.out] at hrq
       rw [if_neg (by simp)] at R5
       rw [← ins_snoc hrq (by omega),← ins_last (ris_snoc hrq).1 fun z hz=>by obtain ⟨j,hj,rfl⟩:=(mem_take_gi (by omega)).1 hz;exact hb j hj]
       exact R5
      have K6:=K45.trans K5
      have e3:decide (x<gi xs q)=true:=by simp;omega
      have hc4:=(h.below K45).here hlt
      clear HR hap hap1 R4 R5 K4 K5 K45 hi hz0 hz1 hz2 HD ht hrt h1 h2 hb
      generalize gi xs q=y at *
      go_wp2_with (first
       | (at_builtin;refine wpList_append_run rfl (.tmp 30) (.tmp 32) 25 rfl _ _ _ _ rfl rfl HA1.out ?_)
       | (at_builtin;refine wpList_append_run rfl (.tmp 34) (.tmp 39) 25 rfl _ _ _ _ rfl rfl HA.out ?_))
      go_roundw
      case rel=>exact ⟨q+1,q+1+1,e2,C2,true,by omega,by go_num,rfl,rfl,HD2,HR2,K6⟩
      case measure=>simp [intOf];omega
  ·obtain rfl:k=n:=by omega
   have HR2:=HR.out
   rw [List.take_of_length_le (by omega)] at HR2
   cases dn with
   | true =>
    rw [if_pos rfl] at HR2
    have I:=Lib.hid HR2.is
    clear HR HR2 HD
    go_wp2
    go_ret
    exact ⟨_,_,_,rfl,I.out,Kr⟩
   | false =>
    rw [if_neg (by simp)] at HR2
    obtain rfl:q=k:=HR2.len.symm.trans hl
    obtain ⟨i0,hi,hz0,hz1,hz2⟩:=info_parts int_info
    obtain ⟨C2,e2,w5,hap,R5,K5⟩:=run_app1 (P:=Tryz.prog) (x:=x) Tryz.underlying25 hi hz0 hz1 (by omega) HR2 (by omega) Kr.size 25
    rw [ins_last hr.out fun z hz=>by obtain ⟨j,hj,rfl⟩:=mem_gi.1 hz;exact HD.out.2 rfl j (by omega)] at R5
    have HA:=Lib.hid hap
    have I:=Lib.hid R5.is
    have K6:=Kr.trans K5
    clear HR HR2 HD hap R5 K5 hi hz0 hz1 hz2
    go_wp2_with (at_builtin;refine wpList_append_run rfl (.tmp 43) (.tmp 45) 25 rfl _ _ _ _ rfl rfl HA.out ?_)
    go_ret
    exact ⟨_,_,_,rfl,I.out,K6⟩
end
section
variable {w:World} {lo lo2 a M:Nat} {p sh wo qu tr:Int} {A B:Option Addr} {n c m d:Nat} {zs xs:List Int}
theorem raddrs9_new (hs:IS .i64 lo w B m d xs) (hm:m<65536) (hx:∀ x∈xs,0≤x∧x≤65536) :
  Calls Tryz.prog 47 #[.agg #[.int .u32 a,.int .i64 p,.slice A n c,.int .i64 sh,.int .i64 wo,.int .i64 qu,.int .i64 tr],.slice B m d] w (RetF .u32 (ads a xs) w):=by
 have hl:=hs.len
 replace hx:=Lib.hid hx
 have K:=below_alloc w (.cells #[.int .u32 a,.int .i64 p,.slice A n c,.int .i64 sh,.int .i64 wo,.int .i64 qu,.int .i64 tr] 27)
 have H:=Bk.new w #[.int .u32 a,.int .i64 p,.slice A n c,.int .i64 sh,.int .i64 wo,.int .i64 qu,.int .i64 tr] 27
 replace hs:=hs.below K
 go_enter Tryz.func47,Tryz.ntmps47
 go_upto_region 1 with (fail)
 generalize w.alloc (.cells #[.int .u32 a,.int .i64 p,.slice A n c,.int .i64 sh,.int .i64 wo,.int .i64 qu,.int .i64 tr] 27)=w2 at H K hs ⊢
 generalize w.heap.size=g at H ⊢
 go_wp2
 go_loopw [5,6] (fun s i wr=>∃ (k e:Nat) (C:Option Addr),k≤m∧i=.int .i64 k∧s=.slice C k e∧Hid (Ri .u32 22 wr w2.heap.size (.slice C k e) k (ads a (xs.take k)))∧Below w2.heap.size w2 wr) (fun _ i _=>m - (intOf i).toNat)
 case atStart=>exact ⟨0,0,none,Nat.zero_le _,rfl,rfl,Lib.hid (Ri.nil _ _),Below.refl _ _⟩
 case round =>
  obtain ⟨k,e,C,hk,rfl,rfl,HR,Kr⟩:=hrel
  by_cases hlt:k<m
  ·have hxk:=hx.out _ (gi_mem (xs:=xs) (j:=k) (by omega))
   obtain ⟨o,ho⟩:∃ o:Nat,gi xs k=(o:Int):=⟨(gi xs k).toNat,by omega⟩
   have ho2:o≤65536:=by omega
   obtain ⟨v,hv⟩:∃ v:Nat,v=(a+o)%4294967296:=⟨_,rfl⟩
   have E:ads a (xs.take (k+1))=ads a (xs.take k) ++ [(v:Int)]:=by
    unfold ads
    rw [take_gi (by omega),List.map_append,ho,hv]
    rfl
   obtain ⟨b,oo,rfl,_,_⟩:=hs.get hlt
   obtain ⟨i0,hi,hz0,hz1,hz2⟩:=info_parts u32_info
   have Kd:=(Below.refl wr.heap.size wr).drew
   obtain ⟨C2,e2,w5,hap,R5,K5⟩:=run_app1 (P:=Tryz.prog) (x:=(v:Int)) Tryz.underlying28 hi hz0 hz1 (by omega) (HR.out.below Kd) (by omega) (Nat.le_trans Kr.size Kd.size) 28
   have HA:=Lib.hid hap
   rw [← E] at R5
   have HR2:=Lib.hid R5
   have K6:Below w2.heap.size w2 w5:=(Kr.drew).trans K5
   have e1:IntKind.u32.wrap ((a:Int)+(o:Int))=(v:Int):=by rw [IntKind.wrap_u32,hv];omega
   have e2:IntKind.u32.wrap (o:Int)=(o:Int):=by rw [IntKind.wrap_u32];omega
   replace ho:=Lib.hid ho
   clear HR hap R5 K5 hi hz0 hz1 hz2 E hv hxk Kd
   go_upto_region 5 with (fail)
   refine wp_region_held_drew (S:=fun w'=>Below w2.heap.size w2 w') (by kernel_rfl) Kr.drew (fun hHeld=>?_)
   refine tz 0 13 rfl hHeld ?_
   refine tz 1 14 rfl hHeld ?_
   refine tz 2 15 rfl hHeld ?_
   refine ty 3 16 ?_ rfl ?_ hHeld ?_
   rotate_left
   ·intro ww hSw
    try dsimp only at hSw
    have H_0:=(H.below hSw).at_ (v:=.int .u32 a) 0 rfl
    have H_1:=(H.below hSw).at_ (v:=.int .i64 p) 1 rfl
    have H_2:=(H.below hSw).at_ (v:=.slice A n c) 2 rfl
    have H_3:=(H.below hSw).at_ (v:=.int .i64 sh) 3 rfl
    have H_4:=(H.below hSw).at_ (v:=.int .i64 wo) 4 rfl
    have H_5:=(H.below hSw).at_ (v:=.int .i64 qu) 5 rfl
    have H_6:=(H.below hSw).at_ (v:=.int .i64 tr) 6 rfl
    have hc:=(hs.below hSw).here hlt
    rw [ho.out] at hc
    go_simp
    try with_reducible rfl
    try omega
   refine tz 4 17 rfl hHeld ?_
   refine tz 5 18 rfl hHeld ?_
   refine tz 6 19 rfl hHeld ?_
   refine ty 7 20 ?_ rfl ?_ hHeld ?_
   rotate_left
   ·intro ww hSw
    try dsimp only at hSw
    have H_0:=(H.below hSw).at_ (v:=.int .u32 a) 0 rfl
    have H_1:=(H.below hSw).at_ (v:=.int .i64 p) 1 rfl
    have H_2:=(H.below hSw).at_ (v:=.slice A n c) 2 rfl
    have H_3:=(H.below hSw).at_ (v:=.int .i64 sh) 3 rfl
    have H_4:=(H.below hSw).at_ (v:=.int .i64 wo) 4 rfl
    have H_5:=(H.below hSw).at_ (v:=.int .i64 qu) 5 rfl
    have H_6:=(H.below hSw).at_ (v:=.int .i64 tr) 6 rfl
    have hc:=(hs.below hSw).here hlt
    rw [ho.out] at hc
    go_simp
    try with_reducible rfl
    try omega
   refine ty 8 21 (.int .u32 (o:Int)) rfl ?_ hHeld ?_
   ·intro ww hSw
    try dsimp only at hSw
    go_simp
    try with_reducible rfl
    try omega
   refine ty 9 22 (.int .u32 (v:Int)) rfl ?_ hHeld ?_
   ·intro ww hSw
    try dsimp only at hSw
    go_simp
    try with_reducible rfl
    try omega
   refine rd 10 23 rfl fun K0 hK=>?_
   go_simp
   refine hK.out _ _ (Below.then_ hHeld (below_alloc _ _)) ?_
   clear hHeld hK K0
   intro hHeld
   try simp only [Act.put,sA,sZ,sS]
   refine rd 11 24 rfl fun K0 hK=>?_
   rw [if_pos (by rfl)]
   refine oper_append_run (.tmp 13) (.tmp 23) 28 rfl _ _ _ _ rfl rfl HA.out ?_
   refine hK.out _ _ K6 ?_
   clear hHeld hK K0
   intro hHeld
   try simp only [Act.put,sA,sZ,sS]
   refine tz 12 5 rfl hHeld ?_
   refine wpAnyH_done (by kernel_rfl) ?_ _
   clear hHeld HA
   go_wp2
   go_roundw
   case rel=>exact ⟨k+1,_,C2,by omega,by go_num,rfl,HR2,K6⟩
   case measure=>simp [intOf];omega
  ·obtain rfl:k=m:=by omega
   have R:=HR.out
   rw [List.take_of_length_le (by omega)] at R
   have I:=Lib.hid (R.is.lower K.size)
   replace K:=Below.then_ K Kr
   clear HR R
   go_wp2
   go_ret
   exact ⟨_,_,_,rfl,I.out,K⟩
end
end Go.Proofs.YtfhefofkhmkcnaaGreatDoor

/-
 What is right at once,as numbers and lists: what a right request comes to,which answers are right. No program stands here.
-/
namespace Go.Proofs.YtfhefofkhmkcnaaGreatDoor
set_option maxRecDepth 100000
set_option maxRecDepth 100000
open Go.RowKit
set_option maxHeartbeats 8000000
/-- An answer: the error, the address, whether used, the addresses, the errors. -/
abbrev An:=Int×Int×Bool×List Int×List Int
def an0 (e:Int):An:=(e,0,false,[],[])
def okA (x:Int):An:=(0,x,false,[],[])
/-- Neither reserved nor in the set. -/
def fr (hs xs:List Int) (i:Nat):Bool:=!hasB hs (i:Int) && !hasB xs (i:Int)
/-- The least offset that can be. -/
def lea (hs xs:List Int) (M:Nat):Option Nat:=(List.range M).find? (fr hs xs)
/-- What is told of a release. -/
def reE (xs:List Int) (o:Int):Int:=if hasB xs o=true then 0 else 6
/-- A batch: the set behind it, and what is told of each. -/
def batS (a M:Nat):List Int→List Int→List Int
 | xs,[]=>xs
 | xs,y :: r=>batS a M (del xs (ofO a M y.toNat)) r
def batE (a M:Nat):List Int→List Int→List Int
 | _,[]=>[]
 | xs,y :: r=>reE xs (ofO a M y.toNat) :: batE a M (del xs (ofO a M y.toNat)) r
/-- What a right request comes to. -/
def doS (a M:Nat) (zs xs:List Int) (k:Int) (X:Nat) (ys:List Int):List Int×An :=
 if k=1 then (match lea zs xs M with | some o=>(ins xs (o:Int),okA ((a+o:Nat):Int)) | none=>(xs,an0 9))
 else if k=2 then (if hasB xs (ofO a M X)=true then (xs,an0 5) else (ins xs (ofO a M X),okA (X:Int)))
 else if k=3 then (del xs (ofO a M X),an0 (reE xs (ofO a M X)))
 else if k=4 then (batS a M xs ys,(0,0,false,[],batE a M xs ys))
 else if k=5 then (xs,(0,0,hasB xs (ofO a M X),[],[]))
 else if k=6 then (xs,(0,0,false,ads a xs,[]))
 else (xs,an0 0)
def someS (a M:Nat) (zs xs:List Int) (k:Int) (X:Nat) (ys:List Int):List Int×An :=
 if askE a M zs k X ys=0 then doS a M zs xs k X ys else (xs,an0 (askE a M zs k X ys))
/-- Does the answer put the request off? -/
def putO (k:Int) (x:An):Bool:=decide ((x.1=10∨x.1=12∨(x.1=11∧k=6))∧x=an0 x.1)
/-- The request with nothing left to choose. -/
def stS (a M:Nat) (zs xs:List Int) (k:Int) (X:Nat) (ys:List Int) (x:An):List Int×An :=
 if k=1∧x.1=0 then someS a M zs xs 2 x.2.1.toNat [] else someS a M zs xs k X ys
/-- Is the answer right, and the set then. -/
def legS (a M:Nat) (zs xs:List Int) (k:Int) (X:Nat) (ys:List Int) (x:An):List Int×Bool :=
 if putO k x=true then (xs,true) else if x=(stS a M zs xs k X ys x).2 then ((stS a M zs xs k X ys x).1,true) else (xs,false)
/-- The same as the document says it. -/
def doR (a M:Nat) (zs xs:List Int) (k:Int) (X:Nat) (ys:List Int) (x:An):List Int×Bool :=
 if k=1 then (if x=an0 9 then (xs,fullB M zs xs) else if x=okA x.2.1∧fiE a M x.2.1.toNat zs=0∧hasB xs (fiO a M x.2.1.toNat zs)=false then (ins xs (fiO a M x.2.1.toNat zs),true) else (xs,false))
 else if k=2 then (if hasB xs (ofO a M X)=true then (xs,decide (x=an0 5)) else if x=okA (X:Int) then (ins xs (ofO a M X),true) else (xs,false))
 else if k=3 then (if hasB xs (ofO a M X)=false then (xs,decide (x=an0 6)) else if x=an0 0 then (del xs (ofO a M X),true) else (xs,false))
 else if k=4 then (if x=(0,0,false,[],batE a M xs ys) then (batS a M xs ys,true) else (xs,false))
 else if k=5 then (xs,decide (x=(0,0,hasB xs (ofO a M X),[],[])))
 else if k=6 then (xs,decide (x=an0 11∨x=(0,0,false,ads a xs,[])))
 else (xs,decide (x=an0 0))
def legR (a M:Nat) (zs xs:List Int) (k:Int) (X:Nat) (ys:List Int) (x:An):List Int×Bool :=
 if x=an0 10∨x=an0 12 then (xs,true)
 else if askE a M zs k X ys=0 then doR a M zs xs k X ys x else (xs,decide (x=an0 (askE a M zs k X ys)))
section
variable {a M:Nat} {zs xs:List Int}
theorem fr_iff {i:Nat}:fr zs xs i=true↔hasB zs (i:Int)=false∧hasB xs (i:Int)=false:=by unfold fr;cases hasB zs (i:Int) <;> cases hasB xs (i:Int) <;> simp
theorem lea_none (hb:∀ i,i<M→fr zs xs i=false):lea zs xs M=none:=by
 unfold lea
 rw [List.find?_eq_none]
 intro i hi
 rw [hb i (List.mem_range.1 hi)];simp
theorem lea_full:lea zs xs M=none↔fullB M zs xs=true:=by
 rw [fullB_iff]
 constructor
 ·intro h i hi
  unfold lea at h
  rw [List.find?_eq_none] at h
  have:=h i (List.mem_range.2 hi)
  unfold fr at this
  cases h1:hasB zs (i:Int) <;> cases h2:hasB xs (i:Int) <;> simp_all
 ·intro h
  refine lea_none fun i hi=>?_
  unfold fr
  rcases h i hi with h | h <;> simp [h]
theorem lea_not {o:Nat} (h:lea zs xs M=some o):fullB M zs xs=false:=by
 cases hf:fullB M zs xs with
 | false=>rfl
 | true=>rw [lea_full.2 hf] at h;cases h
theorem an0_ne {e e':Int} (h:e≠e'):an0 e≠an0 e':=by intro g;exact h (congrArg Prod.fst g)
theorem ofO_in {x:Nat} (h:a≤x∧x<a+M):ofO a M x=((x - a:Nat):Int):=by unfold ofO;rw [if_pos h]
theorem fiE_zero {x:Nat} (h:fiE a M x zs=0):(a≤x∧x<a+M)∧hasB zs ((x - a:Nat):Int)=false∧fiO a M x zs=ofO a M x:=by
 unfold fiE at h
 split at h
 ·rename_i hx
  split at h
  ·omega
  ·rename_i hz
   have hz:hasB zs ((x - a:Nat):Int)=false:=by simpa using hz
   refine ⟨hx,hz,?_⟩
   unfold fiO
   rw [if_pos ⟨hx.1,hx.2,hz⟩,ofO_in hx]
 ·omega
theorem askE_free {k x:Int} {ys:List Int} (h:k=1∨k=6∨k=7):askE a M zs k x ys=0:=by
 unfold askE
 rw [if_pos (by omega),if_neg (by omega),if_neg (by omega),nmI_none (by omega) (by omega)]
 rfl
theorem reE_rng (o:Int):reE xs o=0∨reE xs o=6:=by unfold reE;split <;> simp
theorem leg_bad {k:Int} {X:Nat} {ys:List Int} {x:An} (hp:putO k x=false) (hs:¬ (k=1∧x.1=0)) (he:askE a M zs k X ys≠0):legS a M zs xs k X ys x=(xs,decide (x=an0 (askE a M zs k X ys))):=by
 unfold legS stS someS
 rw [if_neg (by simp [hp]),if_neg hs,if_neg he]
 by_cases hx:x=an0 (askE a M zs k X ys)
 ·rw [if_pos hx];simp [hx]
 ·rw [if_neg hx];simp [hx]
theorem leg_do {k:Int} {X:Nat} {ys:List Int} {x:An} (hp:putO k x=false) (hs:¬ (k=1∧x.1=0)) (he:askE a M zs k X ys=0):legS a M zs xs k X ys x=if x=(doS a M zs xs k X ys).2 then ((doS a M zs xs k X ys).1,true) else (xs,false):=by
 unfold legS stS someS
 rw [if_neg (by simp [hp]),if_neg hs,if_pos he]
theorem putO_no {k:Int} {x:An} (hp:putO k x=false) {e:Int} (h:e=10∨e=12∨(e=11∧k=6)):x≠an0 e:=by
 rintro rfl
 unfold putO at hp
 have:decide (((an0 e).1=10∨(an0 e).1=12∨((an0 e).1=11∧k=6))∧an0 e=an0 (an0 e).1)=true:=decide_eq_true ⟨h,rfl⟩
 rw [this] at hp;cases hp
theorem one_ne {x:An} {e:Int} (he:e≠0) (h:x.1=0):x≠an0 e:=by rintro rfl;exact he h
section
variable {X:Nat} {ys:List Int} {x:An}
theorem doR_1:doR a M zs xs 1 X ys x=(if x=an0 9 then (xs,fullB M zs xs) else if x=okA x.2.1∧fiE a M x.2.1.toNat zs=0∧hasB xs (fiO a M x.2.1.toNat zs)=false then (ins xs (fiO a M x.2.1.toNat zs),true) else (xs,false)):=by unfold doR;rw [if_pos rfl]
theorem doS_1:doS a M zs xs 1 X ys=(match lea zs xs M with | some o=>(ins xs (o:Int),okA ((a+o:Nat):Int)) | none=>(xs,an0 9)):=by unfold doS;rw [if_pos rfl]
theorem doR_2:doR a M zs xs 2 X ys x=(if hasB xs (ofO a M X)=true then (xs,decide (x=an0 5)) else if x=okA (X:Int) then (ins xs (ofO a M X),true) else (xs,false)):=by unfold doR;rw [if_neg (by omega),if_pos rfl]
theorem doS_2:doS a M zs xs 2 X ys=(if hasB xs (ofO a M X)=true then (xs,an0 5) else (ins xs (ofO a M X),okA (X:Int))):=by unfold doS;rw [if_neg (by omega),if_pos rfl]
theorem doR_3:doR a M zs xs 3 X ys x=(if hasB xs (ofO a M X)=false then (xs,decide (x=an0 6)) else if x=an0 0 then (del xs (ofO a M X),true) else (xs,false)):=by unfold doR;rw [if_neg (by omega),if_neg (by omega),if_pos rfl]
theorem doS_3:doS a M zs xs 3 X ys=(del xs (ofO a M X),an0 (reE xs (ofO a M X))):=by unfold doS;rw [if_neg (by omega),if_neg (by omega),if_pos rfl]
theorem doR_4:doR a M zs xs 4 X ys x=(if x=(0,0,false,[],batE a M xs ys) then (batS a M xs ys,true) else (xs,false)):=by unfold doR;rw [if_neg (by omega),if_neg (by omega),if_neg (by omega),if_pos rfl]
theorem doS_4:doS a M zs xs 4 X ys=(batS a M xs ys,(0,0,false,[],batE a M xs ys)):=by unfold doS;rw [if_neg (by omega),if_neg (by omega),if_neg (by omega),if_pos rfl]
theorem doR_5:doR a M zs xs 5 X ys x=((xs,decide (x=(0,0,hasB xs (ofO a M X),[],[])))):=by unfold doR;rw [if_neg (by omega),if_neg (by omega),if_neg (by omega),if_neg (by omega),if_pos rfl]
theorem doS_5:doS a M zs xs 5 X ys=(xs,(0,0,hasB xs (ofO a M X),[],[])):=by unfold doS;rw [if_neg (by omega),if_neg (by omega),if_neg (by omega),if_neg (by omega),if_pos rfl]
theorem doR_6:doR a M zs xs 6 X ys x=((xs,decide (x=an0 11∨x=(0,0,false,ads a xs,[])))):=by unfold doR;rw [if_neg (by omega),if_neg (by omega),if_neg (by omega),if_neg (by omega),if_neg (by omega),if_pos rfl]
theorem doS_6:doS a M zs xs 6 X ys=(xs,(0,0,false,ads a xs,[])):=by unfold doS;rw [if_neg (by omega),if_neg (by omega),if_neg (by omega),if_neg (by omega),if_neg (by omega),if_pos rfl]
theorem doR_7:doR a M zs xs 7 X ys x=((xs,decide (x=an0 0))):=by unfold doR;rw [if_neg (by omega),if_neg (by omega),if_neg (by omega),if_neg (by omega),if_neg (by omega),if_neg (by omega)]
theorem doS_7:doS a M zs xs 7 X ys=(xs,an0 0):=by unfold doS;rw [if_neg (by omega),if_neg (by omega),if_neg (by omega),if_neg (by omega),if_neg (by omega),if_neg (by omega)]
end
theorem leg_ex {X:Nat} {ys:List Int} {x:An} (hp:putO 1 x=false) (h0:x.1=0):legS a M zs xs 1 X ys x=if x=(someS a M zs xs 2 x.2.1.toNat []).2 then ((someS a M zs xs 2 x.2.1.toNat []).1,true) else (xs,false):=by
 have e:stS a M zs xs 1 X ys x=someS a M zs xs 2 x.2.1.toNat []:=by unfold stS;rw [if_pos ⟨rfl,h0⟩]
 unfold legS
 rw [e,if_neg (by simp [hp])]
theorem leg_is (hr:Ris xs) (k:Int) (X:Nat) (ys:List Int) (x:An) (hA:0≤x.2.1):legR a M zs xs k X ys x=legS a M zs xs k X ys x:=by
 cases hp:putO k x with
 | true =>
  have hp':=hp
  unfold putO at hp'
  obtain ⟨h1,h2⟩:=of_decide_eq_true hp'
  unfold legS
  rw [if_pos hp]
  unfold legR
  rcases h1 with h | h | ⟨h,hk⟩
  ·rw [h] at h2;rw [if_pos (.inl h2)]
  ·rw [h] at h2;rw [if_pos (.inr h2)]
  ·rw [h] at h2
   subst hk
   subst h2
   rw [if_neg (by rintro (g | g) <;> exact absurd g (an0_ne (by omega))),if_pos (askE_free (by omega)),doR_6]
   simp
 | false =>
  have n10:=putO_no hp (e:=10) (.inl rfl)
  have n12:=putO_no hp (e:=12) (.inr (.inl rfl))
  unfold legR
  rw [if_neg (by rintro (g | g);exact n10 g;exact n12 g)]
  by_cases hs:k=1∧x.1=0
  ·obtain ⟨rfl,h0⟩:=hs
   rw [if_pos (askE_free (.inl rfl)),doR_1,if_neg (one_ne (by omega) h0)]
   rw [leg_ex hp h0]
   unfold someS
   rw [askE_one (.inl rfl),show (((x.2.1.toNat:Nat):Int)).toNat=x.2.1.toNat from rfl]
   by_cases hf:fiE a M x.2.1.toNat zs=0
   ·obtain ⟨hx,-,ho⟩:=fiE_zero hf
    rw [if_pos hf,ho,doS_2,Int.toNat_of_nonneg hA]
    cases hb:hasB xs (ofO a M x.2.1.toNat) with
    | true =>
     rw [if_pos rfl,if_neg (by rintro ⟨-,-,g⟩;cases g),if_neg (one_ne (by omega) h0)]
    | false =>
     simp only [Bool.false_eq_true,if_false]
     by_cases he:x=okA x.2.1
     ·rw [if_pos ⟨he,hf,trivial⟩,if_pos he]
     ·rw [if_neg (fun g=>he g.1),if_neg he]
   ·rw [if_neg hf,if_neg (by rintro ⟨-,g,-⟩;exact hf g),if_neg (one_ne hf h0)]
  ·by_cases he:askE a M zs k X ys=0
   ·rw [if_pos he,leg_do hp hs he]
    obtain ⟨k1,k7,-,-⟩:=askE_ok he
    obtain rfl | rfl | rfl | rfl | rfl | rfl | rfl:k=1∨k=2∨k=3∨k=4∨k=5∨k=6∨k=7:=by omega
    ·have h0:x.1≠0:=fun g=>hs ⟨rfl,g⟩
     rw [doR_1,doS_1,if_neg (c:=x=okA x.2.1∧_) (by rintro ⟨g,-,-⟩;exact h0 (congrArg Prod.fst g))]
     cases hl:lea zs xs M with
     | some o =>
      rw [lea_not hl]
      dsimp only
      rw [if_neg (c:=x=okA _) (by intro g;exact h0 (congrArg Prod.fst g))]
      split <;> rfl
     | none =>
      rw [lea_full.1 hl]
    ·rw [doR_2,doS_2]
     cases hb:hasB xs (ofO a M X) with
     | true=>simp only [if_true];by_cases g:x=an0 5 <;> simp [g]
     | false=>simp only [Bool.false_eq_true,if_false]
    ·rw [doR_3,doS_3]
     cases hb:hasB xs (ofO a M X) with
     | true=>rw [if_neg (by simp),show reE xs (ofO a M X)=0 by unfold reE;rw [if_pos hb]]
     | false=>rw [if_pos rfl,show reE xs (ofO a M X)=6 by unfold reE;rw [hb];rfl,del_out hr hb];by_cases g:x=an0 6 <;> simp [g]
    ·rw [doR_4,doS_4]
    ·rw [doR_5,doS_5];dsimp only;split <;> simp [*]
    ·have:=putO_no hp (e:=11) (.inr (.inr ⟨rfl,rfl⟩))
     rw [doR_6,doS_6];dsimp only;split <;> simp [*]
    ·rw [doR_7,doS_7];dsimp only;split <;> simp [*]
   ·rw [if_neg he,leg_bad hp hs he]
end
end Go.Proofs.YtfhefofkhmkcnaaGreatDoor
