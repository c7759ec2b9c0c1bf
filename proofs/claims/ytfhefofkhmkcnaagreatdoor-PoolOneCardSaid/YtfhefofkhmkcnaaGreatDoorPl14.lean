/-
  What the functions that these laws call answer, and what follows of it; conditions: those that each theorem names. In this file: ModelLib, ModelMath, ModelRow, ModelOf, ModelAddrs, SnapMath, SweepAddrs, SweepOwn, SweepEndsS, SweepFirstS, SweepAgainS, SweepStepS, SeekRun, GrantMath, GrantPartsR, GrantRef, GrantClo0, GrantCloR, GrantStepR, ModelRefs, ModelRefs2, ModelNew, ModelUses.
-/
import Derived.Test.YtfhefofkhmkcnaaGreatDoorPl13
import Derived.Lib.AppendZerosOnto
import Derived.Lib.Walk
/-
 Words for what calls answer: a bool,a list of integers;nothing that was there is otherwise. The program isn't named here.
-/
namespace Go.Proofs.YtfhefofkhmkcnaaGreatDoor
set_option maxRecDepth 100000
set_option maxRecDepth 100000
open Go.RowKit
set_option maxHeartbeats 8000000
/-- A list of integers is answered; nothing that was there is otherwise. -/
def RetIm (k:IntKind) (xs:List Int) (w:World) (e:Ending) (w':World):Prop:=∃ A n c,e=.returned (.slice A n c)∧IS k 0 w' A n c xs∧Below w.heap.size w w'
end Go.Proofs.YtfhefofkhmkcnaaGreatDoor

/-
 Sets as rising lists of integers: an offset put in,or taken away,is told by what is in alone;where an offset stands;when a list is a set that may be,and all of it;the set that a test tells. No program in it.
-/
namespace Go.Proofs.YtfhefofkhmkcnaaGreatDoor
set_option maxRecDepth 100000
set_option maxHeartbeats 8000000
set_option maxRecDepth 100000
def Ris (xs:List Int):Prop:=xs.Pairwise (· < ·)
theorem Ris.ext {xs ys:List Int} (hx:Ris xs) (hy:Ris ys) (h:∀ z,z∈xs↔z∈ys):xs=ys:=by
 induction xs generalizing ys with
 | nil =>
  cases ys with
  | nil=>rfl
  | cons y t=>have:=(h y).2 (by simp);cases this
 | cons x r ih =>
  cases ys with
  | nil=>have:=(h x).1 (by simp);cases this
  | cons y t =>
   obtain ⟨hx1,hx2⟩:=List.pairwise_cons.1 hx
   obtain ⟨hy1,hy2⟩:=List.pairwise_cons.1 hy
   have e:x=y:=by
    have h1:=(h x).1 (by simp)
    have h2:=(h y).2 (by simp)
    rcases List.mem_cons.1 h1 with h1 | h1
    ·exact h1
    ·rcases List.mem_cons.1 h2 with h2 | h2
     ·exact h2.symm
     ·have:=hx1 _ h2
      have:=hy1 _ h1
      omega
   subst e
   congr 1
   refine ih hx2 hy2 fun z=>⟨fun hz=>?_,fun hz=>?_⟩
   ·rcases List.mem_cons.1 ((h z).1 (List.mem_cons_of_mem _ hz)) with e | g
    ·have:=hx1 _ hz;omega
    ·exact g
   ·rcases List.mem_cons.1 ((h z).2 (List.mem_cons_of_mem _ hz)) with e | g
    ·have:=hy1 _ hz;omega
    ·exact g
theorem Ris.lt {xs:List Int} (h:Ris xs) {i j:Nat} (hij:i<j) (hj:j<xs.length):gi xs i<gi xs j:=by
 rw [gi_at (by omega),gi_at hj]
 exact List.pairwise_iff_getElem.1 h i j (by omega) hj hij
theorem Ris.le {xs:List Int} (h:Ris xs) {i j:Nat} (hij:i≤j) (hj:j<xs.length):gi xs i≤gi xs j:=by
 rcases Nat.lt_or_ge i j with g | g
 ·have:=h.lt g hj;omega
 ·obtain rfl:i=j:=by omega
  exact Int.le_refl _
theorem Ris.nil:Ris []:=List.Pairwise.nil
/-- Those below x, and those above it. -/
def lo_ (xs:List Int) (x:Int):List Int:=xs.filter fun y=>decide (y<x)
def hi_ (xs:List Int) (x:Int):List Int:=xs.filter fun y=>decide (x<y)
def ins (xs:List Int) (x:Int):List Int:=lo_ xs x ++ x :: hi_ xs x
def del (xs:List Int) (x:Int):List Int:=xs.filter fun y=>decide (y≠x)
def at_ (xs:List Int) (x:Int):Nat:=(lo_ xs x).length
theorem mem_lo {xs:List Int} {x z:Int}:z∈lo_ xs x↔z∈xs∧z<x:=by unfold lo_;simp
theorem mem_hi {xs:List Int} {x z:Int}:z∈hi_ xs x↔z∈xs∧x<z:=by unfold hi_;simp
theorem mem_del {xs:List Int} {x z:Int}:z∈del xs x↔z∈xs∧z≠x:=by unfold del;simp
theorem mem_ins {xs:List Int} {x z:Int}:z∈ins xs x↔z=x∨z∈xs:=by
 unfold ins
 rw [List.mem_append,List.mem_cons,mem_lo,mem_hi]
 constructor
 ·rintro (⟨h,_⟩ | h | ⟨h,_⟩)
  ·exact .inr h
  ·exact .inl h
  ·exact .inr h
 ·rintro (h | h)
  ·exact .inr (.inl h)
  ·rcases Int.lt_trichotomy z x with g | g | g
   ·exact .inl ⟨h,g⟩
   ·exact .inr (.inl g)
   ·exact .inr (.inr ⟨h,g⟩)
theorem Ris.lo {xs:List Int} (h:Ris xs) (x:Int):Ris (lo_ xs x):=List.Pairwise.filter _ h
theorem Ris.hi {xs:List Int} (h:Ris xs) (x:Int):Ris (hi_ xs x):=List.Pairwise.filter _ h
theorem Ris.del {xs:List Int} (h:Ris xs) (x:Int):Ris (del xs x):=List.Pairwise.filter _ h
theorem Ris.two {xs ys:List Int} (hx:Ris xs) (hy:Ris ys) (h:∀ a∈xs,∀ b∈ys,a<b):Ris (xs ++ ys):=List.pairwise_append.2 ⟨hx,hy,h⟩
theorem Ris.cons {x:Int} {ys:List Int} (hy:Ris ys) (h:∀ b∈ys,x<b):Ris (x :: ys):=List.pairwise_cons.2 ⟨h,hy⟩
theorem Ris.ins {xs:List Int} (h:Ris xs) (x:Int):Ris (ins xs x):=by
 refine Ris.two (h.lo x) (Ris.cons (h.hi x) fun b hb=>(mem_hi.1 hb).2) fun a ha b hb=>?_
 have h1:=(mem_lo.1 ha).2
 rcases List.mem_cons.1 hb with rfl | hb
 ·exact h1
 ·have:=(mem_hi.1 hb).2;omega
theorem ins_in {xs:List Int} (h:Ris xs) {x:Int} (hx:hasB xs x=true):ins xs x=xs :=
 (h.ins x).ext h fun z=>by
  rw [mem_ins]
  have:=of_decide_eq_true hx
  constructor
  ·rintro (rfl | g)
   ·exact this
   ·exact g
  ·exact .inr
theorem del_out {xs:List Int} (h:Ris xs) {x:Int} (hx:hasB xs x=false):del xs x=xs :=
 (h.del x).ext h fun z=>by
  rw [mem_del]
  have:=of_decide_eq_false hx
  exact ⟨fun g=>g.1,fun g=>⟨g,fun e=>this (e ▸ g)⟩⟩
theorem hasB_iff {xs:List Int} {x:Int}:hasB xs x=true↔x∈xs:=by unfold hasB;simp
theorem len_ins {xs:List Int} (x:Int):(ins xs x).length≤xs.length+1:=by
 have key:∀ ys:List Int,(lo_ ys x).length+(hi_ ys x).length≤ys.length:=by
  intro ys
  induction ys with
  | nil=>simp [lo_,hi_]
  | cons y t ih =>
   unfold lo_ hi_ at ih ⊢
   rw [List.filter_cons,List.filter_cons]
   by_cases h1:y<x
   ·rw [if_pos (by simpa using h1),if_neg (by simp;omega)];simp only [List.length_cons];omega
   ·rw [if_neg (by simpa using h1)]
    split
    ·simp only [List.length_cons];omega
    ·simp only [List.length_cons];omega
 have:=key xs
 unfold ins
 rw [List.length_append,List.length_cons]
 omega
theorem len_del (xs:List Int) (x:Int):(del xs x).length≤xs.length:=List.length_filter_le _ _
/-- May the list be a set, from lo on? -/
def mayR (m:Int) (hs:List Int):Int→List Int→Bool
 | _,[]=>true
 | lo,x :: r=>if x<lo∨m≤x∨hasB hs x=true then false else mayR m hs (x+1) r
theorem mayR_iff {m:Int} {hs:List Int} {lo:Int} {xs:List Int}:mayR m hs lo xs=true↔Ris xs∧∀ x∈xs,lo≤x∧x<m∧hasB hs x=false:=by
 induction xs generalizing lo with
 | nil=>exact ⟨fun _=>⟨Ris.nil,by simp⟩,fun _=>rfl⟩
 | cons x r ih =>
  unfold mayR
  split
  ·rename_i h
   refine ⟨fun e=>(by cases e),fun ⟨_,g⟩=>?_⟩
   obtain ⟨g1,g2,g3⟩:=g x (by simp)
   rw [g3] at h
   rcases h with h | h | h
   ·omega
   ·omega
   ·cases h
  ·rename_i h
   rw [ih]
   constructor
   ·rintro ⟨h1,h2⟩
    refine ⟨Ris.cons h1 fun b hb=>by have:=(h2 b hb).1;omega,fun y hy=>?_⟩
    rcases List.mem_cons.1 hy with rfl | hy
    ·refine ⟨by omega,by omega,?_⟩
     cases e:hasB hs y with
     | false=>rfl
     | true=>exact absurd (.inr (.inr e)) h
    ·have:=h2 y hy
     exact ⟨by omega,this.2⟩
   ·rintro ⟨h1,h2⟩
    obtain ⟨p1,p2⟩:=List.pairwise_cons.1 h1
    exact ⟨p2,fun y hy=>⟨by have:=p1 y hy;omega,(h2 y (List.mem_cons_of_mem _ hy)).2⟩⟩
theorem risB_of {m lo:Int} {xs:List Int} (h:Ris xs) (h2:∀ x∈xs,lo≤x∧x<m):risB m lo xs=true:=by
 induction xs generalizing lo with
 | nil=>rfl
 | cons x r ih =>
  obtain ⟨p1,p2⟩:=List.pairwise_cons.1 h
  have:=h2 x (by simp)
  exact risB_mk this.1 this.2 (ih p2 fun y hy=>⟨by have:=p1 y hy;omega,(h2 y (List.mem_cons_of_mem _ hy)).2⟩)
/-- Are all that aren't reserved in it? -/
def fullB (M:Nat) (hs xs:List Int):Bool:=(List.range M).all fun i=>hasB hs i || hasB xs i
theorem fullB_iff {M:Nat} {hs xs:List Int}:fullB M hs xs=true↔∀ i:Nat,i<M→hasB hs i=true∨hasB xs i=true:=by
 unfold fullB
 simp
theorem cn_two {hs xs:List Int} (hd:∀ x∈xs,hasB hs x=false) (k:Nat):cn xs k+cn hs k≤k∧(cn xs k+cn hs k=k↔∀ i:Nat,i<k→hasB hs i=true∨hasB xs i=true):=by
 induction k with
 | zero=>exact ⟨Nat.le_refl _,fun _ i hi=>by omega,fun _=>rfl⟩
 | succ k ih =>
  obtain ⟨h1,h2⟩:=ih
  have step:(∀ i:Nat,i<k+1→hasB hs i=true∨hasB xs i=true)↔(∀ i:Nat,i<k→hasB hs i=true∨hasB xs i=true)∧(hasB hs k=true∨hasB xs k=true):=by
   constructor
   ·exact fun h=>⟨fun i hi=>h i (by omega),h k (by omega)⟩
   ·rintro ⟨h,h'⟩ i hi
    rcases Nat.lt_or_ge i k with g | g
    ·exact h i g
    ·obtain rfl:i=k:=by omega
     exact h'
  rw [step,← h2]
  cases ex:hasB xs k with
  | true =>
   have eh:hasB hs k=false:=hd _ (hasB_iff.1 ex)
   rw [cn_yes ex,cn_no eh,eh]
   exact ⟨by omega,fun h=>⟨by omega,.inr rfl⟩,fun h=>by omega⟩
  | false =>
   rw [cn_no ex]
   cases eh:hasB hs k with
   | true =>
    rw [cn_yes eh]
    exact ⟨by omega,fun h=>⟨by omega,.inl rfl⟩,fun h=>by omega⟩
   | false =>
    rw [cn_no eh]
    refine ⟨by omega,fun h=>by omega,fun h=>?_⟩
    rcases h.2 with g | g <;> cases g
theorem may_ris {M:Nat} {hs xs:List Int} (h:mayR M hs 0 xs=true):risB M 0 xs=true:=by
 obtain ⟨h1,h2⟩:=mayR_iff.1 h
 exact risB_of h1 fun x hx=>⟨(h2 x hx).1,(h2 x hx).2.1⟩
theorem may_len {M:Nat} {hs xs:List Int} (hr:risB M 0 hs=true) (h:mayR M hs 0 xs=true):xs.length+hs.length≤M∧(xs.length+hs.length=M↔fullB M hs xs=true):=by
 have hd:∀ x∈xs,hasB hs x=false:=fun x hx=>((mayR_iff.1 h).2 x hx).2.2
 have k:=cn_two hd M
 rw [cn_len (may_ris h) (Int.le_refl _) rfl,cn_len hr (Int.le_refl _) rfl] at k
 exact ⟨k.1,by rw [k.2,fullB_iff]⟩
/-- The set that a test tells, below k. -/
def os (f:Nat→Bool):Nat→List Int
 | 0=>[]
 | k+1=>os f k ++ (if f k=true then [(k:Int)] else [])
theorem os_yes {f:Nat→Bool} {k:Nat} (h:f k=true):os f (k+1)=os f k ++ [(k:Int)]:=by rw [os,if_pos h]
theorem os_no {f:Nat→Bool} {k:Nat} (h:f k=false):os f (k+1)=os f k:=by rw [os,h];simp
theorem mem_os {f:Nat→Bool} {k:Nat} {z:Int}:z∈os f k↔∃ i:Nat,i<k∧f i=true∧z=(i:Int):=by
 induction k with
 | zero=>exact ⟨fun h=>(by cases h),fun ⟨i,hi,_⟩=>by omega⟩
 | succ k ih =>
  rw [os,List.mem_append,ih]
  constructor
  ·rintro (⟨i,h1,h2,h3⟩ | h)
   ·exact ⟨i,by omega,h2,h3⟩
   ·split at h
    ·rename_i e
     exact ⟨k,by omega,e,by simpa using h⟩
    ·cases h
  ·rintro ⟨i,h1,h2,h3⟩
   rcases Nat.lt_or_ge i k with g | g
   ·exact .inl ⟨i,g,h2,h3⟩
   ·obtain rfl:i=k:=by omega
    rw [if_pos h2]
    exact .inr (by simpa using h3)
theorem ris_os (f:Nat→Bool) (k:Nat):Ris (os f k):=by
 induction k with
 | zero=>exact Ris.nil
 | succ k ih =>
  rw [os]
  refine Ris.two ih ?_ ?_
  ·split
   ·exact List.pairwise_singleton _ _
   ·exact Ris.nil
  ·intro a ha b hb
   obtain ⟨i,h1,_,rfl⟩:=mem_os.1 ha
   split at hb
   ·have:b=(k:Int):=by simpa using hb
    omega
   ·cases hb
theorem len_os (f:Nat→Bool) (k:Nat):(os f k).length≤k:=by
 induction k with
 | zero=>exact Nat.le_refl _
 | succ k ih =>
  rw [os,List.length_append]
  split
  ·simp;omega
  ·simp;omega
theorem os_congr {f g:Nat→Bool} {k m:Nat} (h:∀ i,(i<k∧f i=true)↔(i<m∧g i=true)):os f k=os g m :=
 (ris_os f k).ext (ris_os g m) fun z=>by
  rw [mem_os,mem_os]
  constructor
  ·rintro ⟨i,h1,h2,h3⟩
   have:=(h i).1 ⟨h1,h2⟩
   exact ⟨i,this.1,this.2,h3⟩
  ·rintro ⟨i,h1,h2,h3⟩
   have:=(h i).2 ⟨h1,h2⟩
   exact ⟨i,this.1,this.2,h3⟩
/-- Which offsets are used: bit set, not reserved. -/
def uf (hs:List Int) (ys:List Nat) (i:Nat):Bool:=(gt ys (i/32)).testBit (i%32) && !hasB hs (i:Int)
theorem os_may (M:Nat) (hs:List Int) (ys:List Nat):mayR M hs 0 (os (uf hs ys) M)=true:=by
 refine mayR_iff.2 ⟨ris_os _ _,fun x hx=>?_⟩
 obtain ⟨i,h1,h2,rfl⟩:=mem_os.1 hx
 unfold uf at h2
 simp only [Bool.and_eq_true,Bool.not_eq_true'] at h2
 exact ⟨by omega,by omega,h2.2⟩
end Go.Proofs.YtfhefofkhmkcnaaGreatDoor

/-
 Rows of integers of the call's own: one more appended,a list appended,one made by appending where there is no room. Conditions: at most 65536 numbers.
-/
namespace Go.Proofs.YtfhefofkhmkcnaaGreatDoor
set_option maxRecDepth 100000
set_option maxRecDepth 100000
open Go.RowKit
set_option maxHeartbeats 8000000
theorem int_info:(Tryz.prog.info? 3).map (fun i=>(i.zero,i.size,i.bytes))=some (some (Value.int .i64 0),1,8):=by kernel_rfl
theorem u32_info:(Tryz.prog.info? 22).map (fun i=>(i.zero,i.size,i.bytes))=some (some (Value.int .u32 0),1,4):=by kernel_rfl
section
variable {k:IntKind} {t:TypeId} {w w':World} {base n c:Nat} {A:Option Addr} {v:Value} {xs:List Int}
end
section
variable {P:Program} {k:IntKind} {t e:TypeId} {i:TypeInfo}
/-- append onto a row of the call's own, whatever its numbers' bytes. -/
theorem run_app {w:World} {base lo:Nat} {B:Option Addr} {m d:Nat} {ys:List Int} {A:Option Addr} {n c:Nat} {xs:List Int} (ht:P.underlying t=some (.slice e)) (hi:P.info? e=some i) (hz:i.zero=some (.int k 0)) (hsize:i.size=1) (hby:i.bytes≤8)
  (hown:Ri k e w base (.slice B m d) m ys) (h:IS k lo w A n c xs) (hn:m+n≤65536) (hbase:base≤w.heap.size) (ty:TypeId) :
  ∃ A' c' w',(Builtin.append_ #[t,t] ty #[.slice B m d,.slice A n c]).run P w=.ok (.slice A' (m+n) c') w'∧Ri k e w' base (.slice A' (m+n) c') (m+n) (ys ++ xs)∧Below base w w':=by
 have hl:=h.len
 rcases A with _ | ad
 ·obtain rfl:=h.nil_ rfl
  obtain rfl:n=0:=by have:=h.cap;omega
  obtain rfl:xs=[]:=List.eq_nil_of_length_eq_zero hl
  have hr:=run_append_owned_none (P:=P) w base t ty e i 1 ht hi _ m (ys.map (iv k)) hown
  exact ⟨B,d,w,hr,by rw [List.append_nil];exact hown,Below.refl _ _⟩
 ·have hcells:∀ j u,(xs.map (iv k))[j]? = some u→w.cell? (ad.add j)=some u:=by
   intro j u hu
   rcases Nat.eq_zero_or_pos n with h0 | h0
   ·subst h0
    obtain rfl:xs=[]:=List.eq_nil_of_length_eq_zero hl
    simp at hu
   ·obtain ⟨ad',e',hc⟩:=h.src h0
    injection e' with e'
    subst e'
    exact hc j u hu
  have hb:(m+n)*i.bytes≤140737488355328:=Nat.le_trans (Nat.mul_le_mul hn hby) (by omega)
  obtain ⟨v',w',hrun,h2,h3,_,h5⟩:=run_append_own_at (P:=P) w base t ty e i _ 1 i.bytes ht hi hz hsize rfl rfl (by omega) _ m (ys.map (iv k)) hown ad n c (xs.map (iv k)) (by simp [hl]) hcells (iv_one k xs) (by unfold maxLen;omega) hb hbase
  rw [← List.map_append] at h2
  obtain ⟨A',c',rfl,_⟩:=IS.of_own h2
  exact ⟨A',c',w',hrun,h2,(Below.refl _ _).grown h3 hbase (own_ge hown)⟩
/-- append of one number that has just been laid. -/
theorem run_app1 {w:World} {base:Nat} {B:Option Addr} {m d:Nat} {ys:List Int} {x:Int} (ht:P.underlying t=some (.slice e)) (hi:P.info? e=some i) (hz:i.zero=some (.int k 0)) (hsize:i.size=1) (hby:i.bytes≤8)
  (hown:Ri k e w base (.slice B m d) m ys) (hn:m+1≤65536) (hbase:base≤w.heap.size) (ty:TypeId) :
  ∃ A' c' w',(Builtin.append_ #[t,t] ty #[.slice B m d,.slice (some ⟨w.heap.size,0,none⟩) 1 1]).run P (w.alloc (.cells #[.int k x] e))=.ok (.slice A' (m+1) c') w'∧Ri k e w' base (.slice A' (m+1) c') (m+1) (ys ++ [x])∧Below base w w':=by
 have K0:=below_alloc w (.cells #[.int k x] e)
 have hs:=gone (k:=k) (w:=w.alloc (.cells #[.int k x] e)) (x:=x) (g:=w.heap.size) (cell_new w _ _) (by unfold maxLen;omega)
 obtain ⟨A',c',w',hr,O,G⟩:=run_app ht hi hz hsize hby (hown.below K0) hs hn (Nat.le_trans hbase K0.size) ty
 exact ⟨A',c',w',hr,O,(K0.mono hbase).trans G⟩
end
end Go.Proofs.YtfhefofkhmkcnaaGreatDoor

/-
 What Of of package model,and the document's,answer of a configuration that may be and as many cells as there are: the offsets whose bits are set and that aren't reserved;nothing that was there is otherwise.
-/
namespace Go.Proofs.YtfhefofkhmkcnaaGreatDoor
set_option maxRecDepth 100000
set_option maxRecDepth 100000
open Go.RowKit
set_option maxHeartbeats 8000000
/-- The same, of places beyond the block too. -/
def vf (M:Nat) (zs:List Int) (ys:List Nat) (i:Nat):Bool:=decide (i<M) && uf zs ys i
theorem os_vf {M L:Nat} {zs:List Int} {ys:List Nat} (h:M≤L):os (vf M zs ys) L=os (uf zs ys) M :=
 os_congr fun i=>by
  unfold vf
  simp only [Bool.and_eq_true,decide_eq_true_eq]
  exact ⟨fun g=>g.2,fun g=>⟨by omega,g⟩⟩
theorem vf_is {M k b:Nat} {zs:List Int} {ys:List Nat} (hb:b<32):vf M zs ys (32*k+b)=((gt ys k).testBit b && !(nw M zs k).testBit b):=by
 rw [nw_bit]
 unfold vf uf nf
 have e1:(32*k+b)/32=k:=by omega
 have e2:(32*k+b)%32=b:=by omega
 have e3:decide (b<32)=true:=decide_eq_true hb
 rw [e1,e2,e3,Bool.true_and]
 by_cases h:32*k+b<M
 ·rw [decide_eq_true h,decide_eq_false (by omega),Bool.true_and,Bool.false_or]
 ·rw [decide_eq_false h,decide_eq_true (by omega)]
  simp
section
variable {w:World} {lo a M:Nat} {p sh wo qu tr:Int} {A B:Option Addr} {n c m d:Nat} {zs:List Int} {ys:List Nat}
theorem mof_any (ha:a<4294967296) (hM:Much a p M) (h:IS .i64 lo w A n c zs) (hn:n≤65536) (hr:risB M 0 zs=true) (hU:US w B m d ys) (hm:lv M≤m) (_hm2:m≤65536) :
  Calls Tryz.prog 167 #[.agg #[.int .u32 a,.int .i64 p,.slice A n c,.int .i64 sh,.int .i64 wo,.int .i64 qu,.int .i64 tr],.slice B m d] w (RetIm .i64 (os (uf zs ys) M) w):=by
 have hMm:=hM.most
 have h4:M≤32*lv M∧32*lv M<M+32:=by unfold lv;omega
 have T1:=fun w=>Lib.hid (leaves_any M hMm w)
 have hE:=Lib.hid (os_vf (zs:=zs) (ys:=ys) h4.1)
 generalize lv M=L at *
 have f1:(L:Int)≤m:=by omega
 have f2:decide ((m:Int)<L)=false:=by simp;omega
 have K:=below_alloc w (.cells #[.int .u32 a,.int .i64 p,.slice A n c,.int .i64 sh,.int .i64 wo,.int .i64 qu,.int .i64 tr] 27)
 have H:=Bk.new w #[.int .u32 a,.int .i64 p,.slice A n c,.int .i64 sh,.int .i64 wo,.int .i64 qu,.int .i64 tr] 27
 replace h:=h.below K
 replace hU:=hU.below K
 go_enter Tryz.func167,Tryz.ntmps167
 go_wp2_with fail
 generalize w.alloc (.cells #[.int .u32 a,.int .i64 p,.slice A n c,.int .i64 sh,.int .i64 wo,.int .i64 qu,.int .i64 tr] 27)=w1 at H K h hU ⊢
 generalize w.heap.size=g at H ⊢
 refine (many_yes ha hM).mono ?_
 rintro e w2 ⟨rfl,K'⟩
 replace H:=H.below K'
 replace h:=h.below K'
 replace hU:=hU.below K'
 replace K:=Below.then_ K K'
 clear K'
 go_wp2_with ((with_reducible refine ((T1 _).out).mono ?_);rintro e w' ⟨rfl,rfl⟩)
 go_loopw [5,16] (fun s i wr=>∃ (k q e:Nat) (C:Option Addr),k≤L∧i=.int .i64 k∧s=.slice C q e∧Hid (Ri .i64 3 wr w2.heap.size (.slice C q e) q (os (vf M zs ys) (32*k)))∧Below w2.heap.size w2 wr) (fun _ i _=>L - (intOf i).toNat)
 case atStart=>exact ⟨0,0,0,none,Nat.zero_le _,rfl,rfl,Lib.hid (Ri.nil _ _),Below.refl _ _⟩
 case round =>
  obtain ⟨k,q,e,C,hk,rfl,rfl,HR,Kr⟩:=hrel
  replace H:=H.below Kr
  replace h:=h.below Kr
  have K2:=Below.then_ K Kr
  clear K
  by_cases hlt:k<L
  ·have hkM:32*k<M:=by omega
   have H_0:=H.at_ (v:=.int .u32 a) 0 rfl
   have H_1:=H.at_ (v:=.int .i64 p) 1 rfl
   have H_2:=H.at_ (v:=.slice A n c) 2 rfl
   have H_3:=H.at_ (v:=.int .i64 sh) 3 rfl
   have H_4:=H.at_ (v:=.int .i64 wo) 4 rfl
   have H_5:=H.at_ (v:=.int .i64 qu) 5 rfl
   have H_6:=H.at_ (v:=.int .i64 tr) 6 rfl
   have H_z:=H.lt
   go_wp2_with fail
   refine (wnew_any ha hM h hn hr hkM).mono ?_
   rintro e w3 ⟨rfl,K'⟩
   clear H_0 H_1 H_2 H_3 H_4 H_5 H_6 H_z
   replace H:=H.below K'
   replace h:=h.below K'
   replace Kr:=Below.then_ Kr K'
   replace K2:=Below.then_ K2 K'
   have HR2:=HR.out.below K'
   clear HR K'
   have N:=nw_lt M zs k
   have hX:=gt_lt hU.fit k
   have hvf:=fun b hb=>Lib.hid (vf_is (M:=M) (k:=k) (b:=b) (zs:=zs) (ys:=ys) hb)
   generalize nw M zs k=Y at *
   obtain ⟨bb,oo,rfl,hbb,hc⟩:=hU.get (j:=k) (by omega)
   generalize gt ys k=X at *
   unfold U64 at hX
   go_wp2
   go_loopw [5,22] (fun s i wr=>∃ (b q e:Nat) (C:Option Addr),b≤32∧i=.int .i64 b∧s=.slice C q e∧Hid (Ri .i64 3 wr w2.heap.size (.slice C q e) q (os (vf M zs ys) (32*k+b)))∧Below w2.heap.size w2 wr) (fun _ i _=>32 - (intOf i).toNat)
   case atStart=>exact ⟨0,q,_,C,Nat.zero_le _,rfl,rfl,Lib.hid HR2,Kr⟩
   case round =>
    clear HR2 Kr
    obtain ⟨b,q,e,C,hb,rfl,rfl,HR,Ks⟩:=hrel
    by_cases hlt2:b<32
    ·have hc2:=(Ks.cell (p:=⟨bb,oo+k,none⟩) hbb).trans hc
     have hql:=HR.out.len
     have hq:=len_os (vf M zs ys) (32*k+b)
     rw [hql] at hq
     have Ux:=fun w=>Lib.hid (used_any X b hX (by omega) w)
     have Uy:=fun w=>Lib.hid (used_any Y b N (by omega) w)
     have hv:=(hvf b hlt2).out
     clear hvf hc hql
     cases h1:X.testBit b with
     | false =>
      rw [h1,Bool.false_and] at hv
      have HR2:=HR.out
      rw [← os_no hv] at HR2
      replace HR2:=Lib.hid HR2
      rw [h1] at Ux
      clear h1 hv HR
      go_wp2_with ((with_reducible refine ((Ux _).out).mono ?_);rintro e w' ⟨rfl,rfl⟩)
      go_roundw
      case rel=>exact ⟨b+1,q,e,C,by omega,by go_num,rfl,HR2,Ks⟩
      case measure=>simp [intOf];omega
     | true =>
      cases h2:Y.testBit b with
      | true =>
       rw [h1,h2] at hv
       have HR2:=HR.out
       rw [← os_no (by rw [hv];rfl)] at HR2
       replace HR2:=Lib.hid HR2
       rw [h1] at Ux
       rw [h2] at Uy
       clear h1 h2 hv HR
       go_wp2_with (first
        | ((with_reducible refine ((Ux _).out).mono ?_);rintro e w' ⟨rfl,rfl⟩)
        | ((with_reducible refine ((Uy _).out).mono ?_);rintro e w' ⟨rfl,rfl⟩))
       go_roundw
       case rel=>exact ⟨b+1,q,e,C,by omega,by go_num,rfl,HR2,Ks⟩
       case measure=>simp [intOf];omega
      | false =>
       rw [h1,h2] at hv
       rw [h1] at Ux
       rw [h2] at Uy
       have P:=fun w=>Lib.hid (poff_any k b (by omega) (by omega) w)
       have hos:=Lib.hid (os_yes (f:=vf M zs ys) (k:=32*k+b) (by rw [hv];rfl))
       obtain ⟨x,hx⟩:∃ x:Nat,x=32*k+b:=⟨_,rfl⟩
       obtain ⟨i0,hi,hz0,hz1,hz2⟩:=info_parts int_info
       obtain ⟨C2,e2,w5,hap,R5,K5⟩:=run_app1 (P:=Tryz.prog) (x:=((x:Nat):Int)) Tryz.underlying25 hi hz0 hz1 (by omega) HR.out (by omega) Ks.size 25
       have HA:=Lib.hid hap
       have HR2:=R5
       rw [hx,← hos.out] at HR2
       replace HR2:=Lib.hid HR2
       have K6:=Ks.trans K5
       rw [← hx] at P
       clear h1 h2 hv HR hap R5 K5 hi hz0 hz1 hz2 hx hos
       go_wp2_with (first
        | ((with_reducible refine ((Ux _).out).mono ?_);rintro e w' ⟨rfl,rfl⟩)
        | ((with_reducible refine ((Uy _).out).mono ?_);rintro e w' ⟨rfl,rfl⟩)
        | ((with_reducible refine ((P _).out).mono ?_);rintro e w' ⟨rfl,rfl⟩)
        | (at_builtin;refine wpList_append_run rfl (.tmp 37) (.tmp 41) 25 rfl _ _ _ _ rfl rfl HA.out ?_))
       go_roundw
       case rel=>exact ⟨b+1,q+1,e2,C2,by omega,by go_num,rfl,HR2,K6⟩
       case measure=>simp [intOf];omega
    ·obtain rfl:b=32:=by omega
     have HR2:=HR.out
     rw [show 32*k+32=32*(k+1) by omega] at HR2
     replace HR2:=Lib.hid HR2
     clear HR
     go_wp2
     go_roundw
     case rel=>exact ⟨k+1,q,e,C,by omega,by go_num,rfl,HR2,Ks⟩
     case measure=>simp [intOf];omega
  ·obtain rfl:L=k:=by omega
   rw [hE.out] at HR
   have I:=Lib.hid ((HR.out.is).lower (Nat.zero_le _))
   go_wp2
   go_ret
   exact ⟨_,_,_,rfl,I.out,K2⟩
end
end Go.Proofs.YtfhefofkhmkcnaaGreatDoor

/-
 What Addrs of package model,and the document's,answer of a set that may be: its addresses;the program's lie in new memory;nothing that was there is otherwise. Conditions: offsets from 0 to 65536.
-/
namespace Go.Proofs.YtfhefofkhmkcnaaGreatDoor
set_option maxRecDepth 100000
set_option maxRecDepth 100000
open Go.RowKit
set_option maxHeartbeats 8000000
/-- The block g is just these numbers. -/
def Bi (k:IntKind) (w:World) (g:Nat) (t:TypeId) (xs:List Int):Prop:=Bk w g t (xs.map (iv k)).toArray
section
variable {k:IntKind} {w w':World} {g:Nat} {t:TypeId} {xs:List Int}
theorem Bi.cell (h:Bi k w g t xs) {i:Nat} (hi:i<xs.length):w.cell? ⟨g,i,none⟩=some (.int k (gi xs i)):=by
 refine Bk.at_ h i ?_
 rw [gi_at hi]
 simp [iv,hi]
theorem Bi.below (h:Bi k w g t xs) (K:Below w.heap.size w w'):Bi k w' g t xs:=Bk.below h K
theorem Bi.set_ (h:Bi k w g t xs) (i:Nat) (v:Int):Bi k (w.setCell ⟨g,i,none⟩ (.int k v)) g t (xs.set i v):=by
 have:=Bk.set_ h i (.int k v)
 unfold Bi
 rw [List.map_set]
 simpa [iv] using this
theorem Bi.is {n:Nat} (h:Bi k w g t xs) (hn:xs.length=n) (hm:n≤65536):IS k 0 w (some ⟨g,0,none⟩) n n xs :=
 ⟨hn,Nat.le_refl _,by unfold maxLen;omega,(fun e=>by cases e),fun _=>⟨g,0,rfl,Nat.zero_le _,Bk.lt h,fun j hj=>by rw [Nat.zero_add];exact h.cell (by omega)⟩⟩
theorem Bi.of_made {base n:Nat} (h:w.ownsRow base t 1 (.slice (some ⟨g,0,none⟩) n n) n (madeCells (Value.int k 0).cells (n*1)).toList):Bi k w g t (List.replicate n 0):=by
 rcases h.2 with ⟨hv,_⟩ | ⟨g',cap,cur,hv,hb,hh,hnc,hcm,hcs,ht⟩
 ·cases hv
 ·injection hv with h1 h2 h3
  injection h1 with h1
  injection h1 with h1
  subst h1;subst h3
  unfold Bi Bk
  rw [hh]
  have e:cur.toList=(madeCells (Value.int k 0).cells (n*1)).toList:=by
   rw [← ht,List.take_of_length_le (by simp;omega)]
  have e2:(madeCells (Value.int k 0).cells (n*1)).toList=(List.replicate n 0).map (iv k):=by
   simp only [madeCells,Value.cells,iv,Nat.mul_one,Array.toList_map,Array.toList_range,List.map_replicate]
   apply List.ext_getElem (by simp)
   intro i h1 h2
   have e1:i%1=0:=by omega
   simp [e1]
  have e3:cur=((List.replicate n 0).map (iv k)).toArray:=by rw [← e2,← e]
  rw [e3]
end
/-- An offset's address. -/
def ad (a:Nat) (x:Int):Int:=((a+x.toNat)%4294967296:Nat)
def ads (a:Nat) (xs:List Int):List Int:=xs.map (ad a)
/-- The row when k addresses are laid. -/
def adk (a:Nat) (xs:List Int) (m k:Nat):List Int:=ads a (xs.take k) ++ List.replicate (m - k) 0
theorem adk_len {a m k:Nat} {xs:List Int} (hl:xs.length=m) (hk:k≤m):(adk a xs m k).length=m:=by
 unfold adk ads
 simp
 omega
theorem adk_set {a m k:Nat} {xs:List Int} (hl:xs.length=m) (hk:k<m):(adk a xs m k).set k (ad a (gi xs k))=adk a xs m (k+1):=by
 unfold adk ads
 rw [take_gi (by omega),List.map_append,List.set_append_right _ _ (by simp;omega)]
 have e:k - (List.map (ad a) (xs.take k)).length=0:=by simp;omega
 rw [e,show m - k=(m - (k+1))+1 by omega,List.replicate_succ]
 simp
theorem adk_end {a m:Nat} {xs:List Int} (hl:xs.length=m):adk a xs m m=ads a xs:=by
 unfold adk
 rw [List.take_of_length_le (by omega),Nat.sub_self]
 simp
theorem adk_start (a m:Nat) (xs:List Int):adk a xs m 0=List.replicate m 0:=by unfold adk ads;simp
theorem ads_len (a:Nat) (xs:List Int):(ads a xs).length=xs.length:=by unfold ads;simp
/-- A row in new memory is answered. -/
def RetN (k:IntKind) (t:TypeId) (n:Nat) (xs:List Int) (w:World) (e:Ending) (w':World):Prop:=∃ g,e=.returned (.slice (some ⟨g,0,none⟩) n n)∧w.heap.size≤g∧Bi k w' g t xs∧Below w.heap.size w w'
section
variable {w:World} {lo a M:Nat} {p sh wo qu tr:Int} {A B:Option Addr} {n c m d:Nat} {xs:List Int}
theorem maddrs_any (hs:IS .i64 lo w B m d xs) (hm:m≤65536) (hx:∀ x∈xs,0≤x∧x≤65536) :
  Calls Tryz.prog 166 #[.agg #[.int .u32 a,.int .i64 p,.slice A n c,.int .i64 sh,.int .i64 wo,.int .i64 qu,.int .i64 tr],.slice B m d] w (RetN .u32 22 m (ads a xs) w):=by
 have hl:=hs.len
 replace hx:=Lib.hid hx
 obtain ⟨i0,hi,hz0,hz1,hz2⟩:=info_parts u32_info
 have hb8:i0.bytes*m≤281474976710656:=by rw [hz2];omega
 have K:=below_alloc w (.cells #[.int .u32 a,.int .i64 p,.slice A n c,.int .i64 sh,.int .i64 wo,.int .i64 qu,.int .i64 tr] 27)
 have H:=Bk.new w #[.int .u32 a,.int .i64 p,.slice A n c,.int .i64 sh,.int .i64 wo,.int .i64 qu,.int .i64 tr] 27
 replace hs:=hs.below K
 have hb0:w.heap.size≤(w.alloc (.cells #[.int .u32 a,.int .i64 p,.slice A n c,.int .i64 sh,.int .i64 wo,.int .i64 qu,.int .i64 tr] 27)).heap.size:=K.size
 go_enter Tryz.func166,Tryz.ntmps166
 go_upto_region 1 with (fail)
 generalize w.alloc (.cells #[.int .u32 a,.int .i64 p,.slice A n c,.int .i64 sh,.int .i64 wo,.int .i64 qu,.int .i64 tr] 27)=w2 at H K hs hb0 ⊢
 obtain ⟨g0,hg0⟩:∃ x,x=w.heap.size:=⟨_,rfl⟩
 rw [← hg0] at H hb0 ⊢
 have hw:w.heap.size≤w2.heap.size:=by omega
 clear hg0 hb0
 go_upto_region 2 with (at_make;refine wpList_make_full _ rfl (.tmp 9) (.tmp 9) _ rfl w2.heap.size 22 i0 _ 1 Tryz.underlying28 hi hz0 hz1 .i64 .i64 _ _ m rfl rfl rfl rfl hb8 (by unfold maxLen;omega) (Nat.le_refl _) ?_;intro w3 hown1 hg1;have B0:=Bi.of_made hown1;clear hown1)
 have K1:Below w2.heap.size w2 w3:=(Below.refl _ _).grown hg1 (Nat.le_refl _) (by simp)
 clear hg1 hi hz0 hz1 hz2 hb8
 rw [← adk_start a m xs] at B0
 obtain ⟨g,hg⟩:∃ x,x=w2.heap.size:=⟨_,rfl⟩
 rw [← hg] at B0 ⊢
 have hge:w2.heap.size≤g:=by omega
 clear hg
 go_wp2
 go_loopw [13] (fun i wr=>∃ k:Nat,k≤m∧i=.int .i64 k∧Hid (Bi .u32 wr g 22 (adk a xs m k))∧Below w2.heap.size w2 wr) (fun i _=>m - (intOf i).toNat)
 case atStart=>exact ⟨0,Nat.zero_le _,rfl,Lib.hid B0,K1⟩
 case round =>
  clear B0 K1
  obtain ⟨k,hk,rfl,HB,Kr⟩:=hrel
  by_cases hlt:k<m
  ·have hxk:=hx.out _ (gi_mem (xs:=xs) (j:=k) (by omega))
   obtain ⟨o,ho⟩:∃ o:Nat,gi xs k=(o:Int):=⟨(gi xs k).toNat,by omega⟩
   have ho2:o≤65536:=by omega
   have hset:=Lib.hid (adk_set (a:=a) hl hlt)
   have hv:=Lib.hid (show ad a (gi xs k)=(((a+o)%4294967296:Nat):Int) by unfold ad;rw [ho];rfl)
   obtain ⟨b,oo,rfl,_,hc⟩:=(hs.below Kr).get hlt
   rw [ho] at hc
   have H2:=H.below Kr
   have H_0:=H2.at_ (v:=.int .u32 a) 0 rfl
   have H_1:=H2.at_ (v:=.int .i64 p) 1 rfl
   have H_z:=H2.lt
   clear ho hxk H2
   go_wp2_with fail
   refine (address_any o ho2).mono ?_
   rintro e w4 ⟨rfl,K'⟩
   clear H_0 H_1 H_z
   have B4:=HB.out.below K'
   have c1:=B4.cell (i:=k) (by rw [adk_len hl (by omega)];omega)
   have f1:=Bk.fz B4 k
   have B5:=B4.set_ k (ad a (gi xs k))
   rw [hset.out,hv.out] at B5
   replace B5:=Lib.hid B5
   have K5:=(Below.then_ Kr K').setCell (p:=⟨g,k,none⟩) hge (.int .u32 (((a+o)%4294967296:Nat):Int))
   clear HB B4 K' hset hv hc
   generalize (((a+o)%4294967296:Nat))=v at *
   go_wp2
   go_roundw
   case rel=>exact ⟨k+1,by omega,by go_num,B5,K5⟩
   case measure=>simp [intOf];omega
  ·obtain rfl:k=m:=by omega
   have B4:=HB.out
   rw [adk_end hl] at B4
   replace B4:=Lib.hid B4
   replace K:=Below.then_ K Kr
   go_wp2
   go_ret
   exact ⟨g,rfl,by omega,B4.out,K⟩
end
end Go.Proofs.YtfhefofkhmkcnaaGreatDoor

/-
 A Snapshot that sweeps,as functions of numbers. No program in it.
-/
namespace Go.Proofs.YtfhefofkhmkcnaaGreatDoor
set_option maxRecDepth 100000
set_option maxRecDepth 100000
set_option maxRecDepth 100000
open Go.RowKit
set_option maxHeartbeats 8000000
set_option linter.unusedVariables false
/-- It tries once more; it has tried enough; it is done. -/
def swNt (s:Sc):Sc:=⟨s.kind,s.addr,s.err,s.aad,s.used,6,s.shard,s.sought,s.leaf,s.bit,s.word,s.full,0,s.tries+1,s.item,s.stamp⟩
def swRt (s:Sc):Sc:=⟨s.kind,s.addr,11,s.aad,s.used,0,s.shard,s.sought,s.leaf,s.bit,s.word,s.full,0,s.tries+1,s.item,s.stamp⟩
def swDn (s:Sc):Sc:=⟨s.kind,s.addr,s.err,s.aad,s.used,0,s.shard,s.sought,s.leaf,s.bit,s.word,s.full,0,s.tries,s.item,s.stamp⟩
/-- A step of a Snapshot's second collect, which read x where it had seen y: the operation, the addresses it tells, what it has seen, whether it takes effect. -/
def nsA (tr:Int) (L:Nat) (x y:Nat) (s:Sc):Sc:=if x=y then (if s.at_+1<(L:Int) then swMv s else swDn s) else (if s.tries+1=tr then swRt s else swNt s)
def nsAL (a M:Nat) (zs:List Int) (sn:List Nat) (x y:Nat) (s:Sc) (l:Ls):Ls:=if x=y then (if s.at_+1<(lv M:Int) then l else ⟨l.rqs,ads a (os (uf zs sn) M),l.ers,[]⟩) else swNo l
def nsAB (tr:Int) (L:Nat) (x y:Nat) (s:Sc):Bool:=if x=y then decide (¬ s.at_+1<(L:Int)) else decide (s.tries+1=tr)
theorem uf_app {zs:List Int} {sn zr:List Nat} {M:Nat} (h:lv M≤sn.length):os (uf zs (sn ++ zr)) M=os (uf zs sn) M:=os_congr fun i=>by
 constructor
 ·rintro ⟨h1,h2⟩
  refine ⟨h1,?_⟩
  unfold uf at h2 ⊢
  rwa [show gt (sn ++ zr) (i/32)=gt sn (i/32) by unfold gt;rw [List.getD_eq_getElem?_getD,List.getD_eq_getElem?_getD,List.getElem?_append_left (by unfold lv at h;omega)]] at h2
 ·rintro ⟨h1,h2⟩
  refine ⟨h1,?_⟩
  unfold uf at h2 ⊢
  rwa [show gt (sn ++ zr) (i/32)=gt sn (i/32) by unfold gt;rw [List.getD_eq_getElem?_getD,List.getD_eq_getElem?_getD,List.getElem?_append_left (by unfold lv at h;omega)]]
end Go.Proofs.YtfhefofkhmkcnaaGreatDoor

/-
 What sweep.addrs answers. Conditions: a block that may be,as many words seen as there are leaves.
-/
namespace Go.Proofs.YtfhefofkhmkcnaaGreatDoor
set_option maxRecDepth 100000
set_option maxRecDepth 100000
set_option maxRecDepth 100000
open Go.RowKit
set_option maxHeartbeats 8000000
set_option linter.unusedVariables false
theorem run_copy_pre {P:Program} {w w1:World} {A:Option Addr} {k n c g B:Nat} {xs:List Nat} {t e:TypeId} (hu:P.underlying t=some (.slice e)) (hsz:(P.info? e).map (·.size)=some 1) (h:US w A k c xs) (K:Below w.heap.size w w1) (hk:0<k) (hkn:k≤n)
  (hB:Blk w1 g e (List.replicate n 0)) (hBg:B≤g)  (ty:TypeId) :
  ∃ w2,(Builtin.copy_ #[t,t] ty #[.slice (some ⟨g,0,none⟩) n n,.slice A k c]).run P w1=.ok (.int .i64 (k:Nat)) w2∧Blk w2 g e (xs ++ List.replicate (n - k) 0)∧Below B w1 w2:=by
 obtain ⟨ad,rfl,hs⟩:=h.src K hk
 have hl:(xs.map uv).length=k:=by rw [List.length_map,h.len]
 have hx:xs.length=k:=h.len
 have hr:=run_copy_row (P:=P) w1 t t ty e g 0 n n ad k c _ e (xs.map uv) hu hsz hB (by rw [hl];exact (Nat.min_eq_left hkn).symm) hs (by simp [h.len];omega) (uv_one xs)
 refine ⟨_,by rw [hl] at hr;exact hr,?_,below_setRow (Below.refl _ _) hBg _⟩
 unfold Blk
 rw [setRow_heap w1 g _ _ e _ hB]
 simp
theorem new_blk (n:Nat) (hn:n≤65536) (w:World):Calls Tryz.prog 165 #[.int .i64 (n:Nat)] w fun e w'=>∃ g,e=.returned (.slice (some ⟨g,0,none⟩) n n)∧w.heap.size≤g∧Blk w' g 41 (List.replicate n 0)∧Below w.heap.size w w':=by
 obtain ⟨i0,hi,hz0,hz1,hz2⟩:=info_parts u64_info
 have hb8:i0.bytes*n≤281474976710656:=by rw [hz2];omega
 go_enter Tryz.func165,Tryz.ntmps165
 go_wp2_with (at_make;refine wpList_make_full _ rfl (.tmp 9) (.tmp 9) _ rfl w.heap.size 41 i0 _ 1 Tryz.underlying34 hi hz0 hz1 .i64 .i64 _ _ n rfl rfl rfl rfl hb8 (by unfold maxLen;omega) (Nat.le_refl _) ?_;intro w1 hown1 hg1;have B1:=Blk.of_made hown1;clear hown1;have K1:Below w.heap.size w w1:=(Below.refl _ _).grown hg1 (Nat.le_refl _) (by simp);clear hg1)
 go_ret
 exact ⟨_,rfl,Nat.le_refl _,B1,K1⟩
theorem bi_is {k:IntKind} {w:World} {g lo:Nat} {t:TypeId} {xs:List Int} {n:Nat} (h:Bi k w g t xs) (hn:xs.length=n) (hm:n≤65536) (hl:lo≤g):IS k lo w (some ⟨g,0,none⟩) n n xs :=
 ⟨hn,Nat.le_refl _,by unfold maxLen;omega,(fun e=>by cases e),fun _=>⟨g,0,rfl,hl,Bk.lt h,fun j hj=>by rw [Nat.zero_add];exact h.cell (by omega)⟩⟩
section
variable {w:World} {lz a M n3 c3:Nat} {p sh wo qu tr:Int} {A A3:Option Addr} {n c:Nat} {zs:List Int} {sn:List Nat}
theorem sadrs_any (ha:a<4294967296) (hM:Much a p M) (hI:IS .i64 lz w A n c zs) (hn:n≤65536) (hr:risB M 0 zs=true) (hS:US w A3 n3 c3 sn) (hl:n3=lv M) :
  Calls Tryz.prog 162 #[.agg #[.int .u32 (a:Int),.int .i64 p,.slice A n c,.int .i64 sh,.int .i64 wo,.int .i64 qu,.int .i64 tr],.slice A3 n3 c3] w fun e w'=>∃ A1 n1 c1,e=.returned (.slice A1 n1 c1)∧IS .u32 w.heap.size w' A1 n1 c1 (ads a (os (uf zs sn) M))∧Below w.heap.size w w':=by
 have hm9:=hM.most
 have hl3:=lv_le hm9
 have ht3:=tv_le hm9
 have hlv0:0<lv M:=by have:=hM.pos;unfold lv;omega
 have hsl:=hS.len
 have TM:=fun w=>Lib.hid (many_yes (w:=w) ha hM)
 have TC:=fun w=>Lib.hid (cells_any M (by omega) w)
 obtain ⟨N3,hN3⟩:∃ N3,N3=lv M+tv M+1:=⟨_,rfl⟩
 rw [← hN3] at TC
 obtain ⟨yz,hyz⟩:∃ yz,sn ++ List.replicate (N3 - n3) 0=yz:=⟨_,rfl⟩
 have hzf:Hid (∀ x∈yz,x<U64):=Lib.hid (by rw [← hyz];intro x hx;rcases List.mem_append.1 hx with h | h;exact hS.fit x h;rw [List.eq_of_mem_replicate h];decide)
 have hzl:Hid (yz.length=N3):=Lib.hid (by rw [← hyz];simp;omega)
 have hk0:0<n3:=by omega
 have hkn:n3≤N3:=by omega
 have hNs:N3≤65536:=by omega
 have TN:=fun w=>Lib.hid (new_blk N3 (by omega) w)
 have TO:=fun w B d (U:US w B N3 d yz) (hI:IS .i64 lz w A n c zs)=>Lib.hid (by have R:=mof_any (w:=w) (sh:=sh) (wo:=wo) (qu:=qu) (tr:=tr) ha hM hI hn hr U (by omega) (by omega);rw [← hyz,uf_app (by omega)] at R;exact R)
 have hmay:=(mayR_iff.1 (os_may M zs sn)).2
 have hol:=may_len hr (os_may M zs sn)
 have hxx:∀ x∈os (uf zs sn) M,0≤x∧x≤65536:=fun x hx=>by have:=hmay x hx;omega
 have hxl:(os (uf zs sn) M).length≤65536:=by omega
 have TA:=fun w B m d (I:IS .i64 0 w B m d (os (uf zs sn) M))=>Lib.hid (maddrs_any (w:=w) (a:=a) (p:=p) (sh:=sh) (wo:=wo) (qu:=qu) (tr:=tr) (A:=A) (n:=n) (c:=c) I (by have:=I.len;omega) hxx)
 generalize os (uf zs sn) M=xo at TO TA hxl ⊢
 have hyz2:=Lib.hid hyz
 clear hmay hol hxx hyz hl hl3 ht3 hlv0 hsl hm9 hN3 hM ha
 go_enter Tryz.func162,Tryz.ntmps162
 go_upto_region 1 with (fail)
 have L:=Loc.start w
 replace L:=(L).alloc #[.int .u32 (a:Int),.int .i64 p,.slice A n c,.int .i64 sh,.int .i64 wo,.int .i64 qu,.int .i64 tr] 27
 try simp only [World.size_alloc] at L
 try dsimp only [nput] at L
 generalize (w).alloc (.cells #[.int .u32 (a:Int),.int .i64 p,.slice A n c,.int .i64 sh,.int .i64 wo,.int .i64 qu,.int .i64 tr] 27)=w1 at L ⊢
 generalize w.heap.size=gH at L ⊢
 have H_0:=L.at_ 0 0 rfl (v:=.int .u32 (a:Int)) rfl
 have H_1:=L.at_ 0 1 rfl (v:=.int .i64 p) rfl
 have H_z:=L.lt 0 rfl
 go_wp2_with fail
 refine ((TM _).out).mono ?_
 rintro e w2 ⟨rfl,K'⟩
 clear H_0 H_1 H_z
 replace L:=L.over K'
 go_wp2_with fail
 refine ((TC _).out).mono ?_
 rintro e w' ⟨rfl,rfl⟩
 go_wp2_with fail
 have LbN:=L.lts
 refine ((TN _).out).mono ?_
 rintro e w3 ⟨gN,rfl,hgN,hBk,K'⟩
 obtain ⟨wc,hcp,B2,K2⟩:=run_copy_pre (P:=Tryz.prog) Tryz.underlying34 u64_size (hS.below L.K) K' hk0 hkn hBk hgN 3
 rw [hyz2.out] at B2
 replace L:=L.over (K'.trans K2)
 clear K' K2 hBk
 go_upto_region 3 with (fail)
 have UC:=B2.us (n:=N3) hzf.out hzl.out hNs
 replace L:=L.us_av (fun i b e b' o e'=>by injection e' with e';injection e' with e1;have:=LbN i b e;omega) UC
 clear hcp B2 UC LbN hgN
 refine rg L fun v4 hHeld=>?_
 replace L:=hHeld
 refine tR 0 14 2 0 rfl rfl Tryz.underlying27 cf_sz hHeld ?_
 refine tR 1 15 2 0 rfl rfl Tryz.underlying27 cf_sz hHeld ?_
 refine tg 2 16 (.slice (some ⟨gN,0,none⟩) N3 N3) rfl hHeld ?_
 refine rd 3 17 rfl fun K0 hK=>?_
 go_simp
 refine ((TO _ _ _ (L.us_ 0 rfl) (hI.below L.K)).out).mono ?_
 rintro e w5 ⟨Ao,no,co,rfl,Io,K'⟩
 replace L:=L.over K'
 refine hK.out _ _ L ?_
 clear hHeld hK K0
 intro hHeld
 clear K'
 try simp only [Act.put,sA,sZ,sS]
 refine rd 4 18 rfl fun K0 hK=>?_
 have hsz:=L.K.size
 have hno:=Lib.hid Io.len
 go_simp
 refine ((TA _ _ _ _ Io).out).mono ?_
 rintro e w6 ⟨gA,rfl,hgA,hBi,K'⟩
 replace L:=L.over K'
 have hII:IS .u32 w.heap.size _ (some ⟨gA,0,none⟩) no no (ads a xo):=bi_is hBi (by unfold ads;simp;exact hno.out) (by have:=hno.out;omega) (by omega)
 clear hBi hgA Io
 refine hK.out _ _ L ?_
 clear hHeld hK K0
 intro hHeld
 clear K'
 try simp only [Act.put,sA,sZ,sS]
 refine tg 5 4 (.slice (some ⟨gA,0,none⟩) no no) rfl hHeld ?_
 refine wpAnyH_done (by kernel_rfl) ?_ _
 clear hHeld
 go_wp2
 go_ret
 exact ⟨_,_,_,rfl,hII,L.K⟩
end
end Go.Proofs.YtfhefofkhmkcnaaGreatDoor

/-
 What op.Own answers,Seen as a row of the call's own. Conditions: at most 65536 items a list.
-/
namespace Go.Proofs.YtfhefofkhmkcnaaGreatDoor
set_option maxRecDepth 100000
set_option maxRecDepth 100000
set_option maxRecDepth 100000
open Go.RowKit
set_option maxHeartbeats 8000000
set_option linter.unusedVariables false
theorem clone64_row {w:World} {lo:Nat} {A:Option Addr} {n c:Nat} {xs:List Int} (h:IS .u64 lo w A n c xs) (hn:n≤65536) :
  Calls Tryz.prog 74 #[.slice A n c] w (RetR .u64 41 n xs w):=by
 obtain ⟨i0,hi,hz0,hz1,hz2⟩:=info_parts clone64_info
 have q:∀ (w:World) (a:Option Addr) (n c n' c':Nat),(binOp .eql 34 (.slice a n c) (.slice none n' c')).run Tryz.prog w=.ok (.bool a.isNone) w:=fun w a n c n' c'=>Lib.run_eql_slice_nil w _ _ a n c n' c' Tryz.underlying34
 rcases A with _ | ad
 ·obtain rfl:=h.nil_ rfl
  obtain rfl:n=0:=by have:=h.cap;omega
  obtain rfl:xs=[]:=List.eq_nil_of_length_eq_zero h.len
  go_enter Tryz.func74,Tryz.ntmps74
  go_wp2
  go_ret
  exact ⟨_,_,rfl,Ri.nil _ _,Below.refl _ _⟩
 ·have hr:=fun ty=>run_clone_row (P:=Tryz.prog) Tryz.underlying34 hi hz0 hz1 (by omega) h hn ty
  clear hz0 hz1 hz2
  go_enter Tryz.func74,Tryz.ntmps74
  obtain ⟨A',c',w',hrun,hI,K⟩:=hr 34
  go_wp2_with (at_builtin;refine wpList_append_run rfl (.tmp 5) (.tmp 6) _ rfl _ _ _ _ rfl rfl hrun ?_)
  go_ret
  exact ⟨_,_,rfl,hI,K⟩
theorem own_seen {w:World} {lo:Nat} {h:Hd} {s:Sc} {l:Ls} (hL:Lists lo w h l) (h0:h.n0≤65536) (h1:h.n1≤65536) (h2:h.n2≤65536) (h3:h.n3≤65536) :
  Calls Tryz.prog 39 #[.agg (opv h s)] w (RetOwnS h s l w):=by
 rcases s with ⟨kind,addr,err,aad,used,phase,shard,sought,leaf,bit,word,full,at_,tries,item,stamp⟩
 rcases h with ⟨A0,n0,c0,A1,n1,c1,A2,n2,c2,A3,n3,c3⟩
 try dsimp only at *
 go_enter Tryz.func39,Tryz.ntmps39
 go_upto_region 1 with (fail)
 have L:=Loc.start w
 generalize hal:World.alloc _ _=w1
 replace L:=L.a2 hal
 clear hal
 replace L:=L.is0 (opv hd0 sc0) rfl
 generalize w.heap.size+1=gR at L ⊢
 generalize w.heap.size=gO at L ⊢
 have O_2:=L.at_ 1 2 rfl (v:=.slice A0 n0 c0) rfl
 have O_z:=L.lt 1 rfl
 go_wp2_with fail
 have KSi0:=L.K.size
 refine (clone32_any (hL.i0.below L.K) h0).mono ?_
 rintro e w2 ⟨A0',c0',rfl,I',K'⟩
 clear O_2 O_z
 have Lb:=L.lts
 replace L:=L.over K'
 replace L:=L.is_new Lb I'
 clear Lb
 try dsimp only [lF,List.cons_append,List.nil_append] at L
 clear I'
 have O_2:=L.at_ 1 2 rfl (v:=.slice A0 n0 c0) rfl
 have O_z:=L.lt 1 rfl
 have O_f2:=L.fz 1 2 rfl
 go_upto_region 2 with fail
 clear O_2 O_z O_f2
 generalize hal:World.setCell _ _ _=w3
 replace L:=L.sc1 hal (l9:=(opv ⟨A0',n0,c0',A1,n1,c1,A2,n2,c2,A3,n3,c3⟩ ⟨kind,addr,err,aad,used,phase,shard,sought,leaf,bit,word,full,at_,tries,item,stamp⟩)) rfl
 clear hal
 have O_6:=L.at_ 1 6 rfl (v:=.slice A1 n1 c1) rfl
 have O_z:=L.lt 1 rfl
 go_wp2_with fail
 have KSi1:=L.K.size
 refine (clone32_any (hL.i1.below L.K) h1).mono ?_
 rintro e w4 ⟨A1',c1',rfl,I',K'⟩
 clear O_6 O_z
 have Lb:=L.lts
 replace L:=L.over K'
 replace L:=L.is_new Lb I'
 clear Lb
 try dsimp only [lF,List.cons_append,List.nil_append] at L
 clear I'
 have O_6:=L.at_ 1 6 rfl (v:=.slice A1 n1 c1) rfl
 have O_z:=L.lt 1 rfl
 have O_f6:=L.fz 1 6 rfl
 go_upto_region 3 with fail
 clear O_6 O_z O_f6
 generalize hal:World.setCell _ _ _=w5
 replace L:=L.sc1 hal (l9:=(opv ⟨A0',n0,c0',A1',n1,c1',A2,n2,c2,A3,n3,c3⟩ ⟨kind,addr,err,aad,used,phase,shard,sought,leaf,bit,word,full,at_,tries,item,stamp⟩)) rfl
 clear hal
 have O_7:=L.at_ 1 7 rfl (v:=.slice A2 n2 c2) rfl
 have O_z:=L.lt 1 rfl
 go_wp2_with fail
 have KSi2:=L.K.size
 refine (cloneE_any (hL.i2.below L.K) h2).mono ?_
 rintro e w6 ⟨A2',c2',rfl,I',K'⟩
 clear O_7 O_z
 have Lb:=L.lts
 replace L:=L.over K'
 replace L:=L.is_new Lb I'
 clear Lb
 try dsimp only [lF,List.cons_append,List.nil_append] at L
 clear I'
 have O_7:=L.at_ 1 7 rfl (v:=.slice A2 n2 c2) rfl
 have O_z:=L.lt 1 rfl
 have O_f7:=L.fz 1 7 rfl
 go_upto_region 4 with fail
 clear O_7 O_z O_f7
 generalize hal:World.setCell _ _ _=w7
 replace L:=L.sc1 hal (l9:=(opv ⟨A0',n0,c0',A1',n1,c1',A2',n2,c2',A3,n3,c3⟩ ⟨kind,addr,err,aad,used,phase,shard,sought,leaf,bit,word,full,at_,tries,item,stamp⟩)) rfl
 clear hal
 have O_15:=L.at_ 1 15 rfl (v:=.slice A3 n3 c3) rfl
 have O_z:=L.lt 1 rfl
 go_wp2_with fail
 have KSr3:=L.K.size
 have J0:=L.is_ 2 rfl
 have J1:=L.is_ 1 rfl
 have J2:=L.is_ 0 rfl
 refine (clone64_row (hL.i3.below L.K) h3).mono ?_
 rintro e w8 ⟨A3',c3',rfl,R',K'⟩
 clear O_15 O_z
 have Lb:=L.lts
 replace L:=L.over K'
 replace L:=L.ri_new Lb R'
 clear Lb
 try dsimp only [lF,List.cons_append,List.nil_append] at L
 have sep0:=R'.sep_old (lo':=w.heap.size) J0 (Nat.le_refl _)
 have sep1:=R'.sep_old (lo':=w.heap.size) J1 (Nat.le_refl _)
 have sep2:=R'.sep_old (lo':=w.heap.size) J2 (Nat.le_refl _)
 clear J0 J1 J2 R'
 have O_15:=L.at_ 1 15 rfl (v:=.slice A3 n3 c3) rfl
 have O_z:=L.lt 1 rfl
 have O_f15:=L.fz 1 15 rfl
 go_upto_region 5 with fail
 clear O_15 O_z O_f15
 generalize hal:World.setCell _ _ _=w9
 replace L:=L.sc1 hal (l9:=(opv ⟨A0',n0,c0',A1',n1,c1',A2',n2,c2',A3',n3,c3'⟩ ⟨kind,addr,err,aad,used,phase,shard,sought,leaf,bit,word,full,at_,tries,item,stamp⟩)) rfl
 clear hal
 go_wp2_with (first | (refine lO 1 (L.bk_ 1 rfl) ?_) | (refine sO 2 25 (L.bk_ 0 rfl) rfl rfl ?_))
 generalize hal:World.setRow _ _ _=w10
 replace L:=L.rr0 hal
 clear hal
 refine eC Tryz.results39 (L.bk_ 0 rfl) ?_
 exact ⟨_,_,_,_,_,_,_,_,rfl,(L.is_ 3 rfl).lower KSi0,(L.is_ 2 rfl).lower KSi1,(L.is_ 1 rfl).lower KSi2,(L.ri_ 0 rfl).lower KSr3,sep0,sep1,sep2,L.K⟩
end Go.Proofs.YtfhefofkhmkcnaaGreatDoor

/-
 What sweep.leaves,leave,anew,full and ends answer. Conditions: a block that may be.
-/
namespace Go.Proofs.YtfhefofkhmkcnaaGreatDoor
set_option maxRecDepth 100000
set_option maxRecDepth 100000
set_option maxRecDepth 100000
open Go.RowKit
set_option maxHeartbeats 8000000
set_option linter.unusedVariables false
section
variable {w w1:World} {lo gPR gPO gPH a M m d tt:Nat} {p sh wo qu tr ph:Int} {A B:Option Addr} {n c:Nat} {sn ys:List Nat} {h:Hd} {s:Sc} {l:Ls}
theorem swlv_any (ha:a<4294967296) (hM:Much a p M) :
  Calls Tryz.prog 148 #[.agg #[.int .u32 (a:Int),.int .i64 p,.slice A n c,.int .i64 sh,.int .i64 wo,.int .i64 qu,.int .i64 tr]] w (fun e w'=>e=.returned (.int .i64 ((lv M:Nat):Int))∧Below w.heap.size w w'):=by
 have TM:=fun w=>Lib.hid (many_yes (w:=w) ha hM)
 have TV:=fun w=>Lib.hid (leaves_any M hM.most w)
 generalize lv M=Lv at TV ⊢
 clear hM ha
 go_enter Tryz.func148,Tryz.ntmps148
 go_upto_region 1 with (fail)
 have L:=Loc.start w
 replace L:=(L).alloc #[.int .u32 (a:Int),.int .i64 p,.slice A n c,.int .i64 sh,.int .i64 wo,.int .i64 qu,.int .i64 tr] 27
 try simp only [World.size_alloc] at L
 try dsimp only [nput] at L
 generalize (w).alloc (.cells #[.int .u32 (a:Int),.int .i64 p,.slice A n c,.int .i64 sh,.int .i64 wo,.int .i64 qu,.int .i64 tr] 27)=w1 at L ⊢
 generalize w.heap.size=gH at L ⊢
 have H_0:=L.at_ 0 0 rfl (v:=.int .u32 (a:Int)) rfl
 have H_1:=L.at_ 0 1 rfl (v:=.int .i64 p) rfl
 have H_z:=L.lt 0 rfl
 go_wp2_with fail
 refine ((TM _).out).mono ?_
 rintro e w2 ⟨rfl,K'⟩
 clear H_0 H_1 H_z
 replace L:=L.over K'
 go_wp2_with fail
 refine ((TV _).out).mono ?_
 rintro e w' ⟨rfl,rfl⟩
 go_wp2
 go_ret
 exact ⟨rfl,L.K⟩
theorem leave_any (ph:Int) :
  Calls Tryz.prog 147 #[.agg (opv h s),.int .i64 ph] w (RetOp (swH h) (swLe s ph) w):=by
 rcases s with ⟨kind,addr,err,aad,used,phase,shard,sought,leaf,bit,word,full,at_,tries,item,stamp⟩
 rcases h with ⟨A0,n0,c0,A1,n1,c1,A2,n2,c2,A3,n3,c3⟩
 try dsimp only at *
 go_enter Tryz.func147,Tryz.ntmps147
 go_upto_region 1 with (fail)
 have L:=Loc.start w
 generalize hal:World.alloc _ _=w1
 replace L:=L.a2 hal
 clear hal
 replace L:=L.is0 (opv hd0 sc0) rfl
 generalize w.heap.size+1=gR at L ⊢
 generalize w.heap.size=gO at L ⊢
 have O_8:=L.at_ 1 8 rfl (v:=.int .i64 phase) rfl
 have O_16:=L.at_ 1 16 rfl (v:=.int .i64 at_) rfl
 have O_15:=L.at_ 1 15 rfl (v:=.slice A3 n3 c3) rfl
 have O_z:=L.lt 1 rfl
 have O_f8:=L.fz 1 8 rfl
 have O_f16:=L.fz 1 16 rfl
 have O_f15:=L.fz 1 15 rfl
 go_upto_region 2 with fail
 clear O_8 O_16 O_15 O_z O_f8 O_f16 O_f15
 replace L:=((((L.set 1 8 rfl (.int .i64 ph)).set 1 16 rfl (.int .i64 0)).set 1 15 rfl (.slice none 0 0)).is 1 (opv ⟨A0,n0,c0,A1,n1,c1,A2,n2,c2,none,0,0⟩ ⟨kind,addr,err,aad,used,ph,shard,sought,leaf,bit,word,full,0,tries,item,stamp⟩) rfl)
 try dsimp only [nput] at L
 generalize (((w1).setCell ⟨gO,8,none⟩ (.int .i64 ph)).setCell ⟨gO,16,none⟩ (.int .i64 0)).setCell ⟨gO,15,none⟩ (.slice none 0 0)=w2 at L ⊢
 go_wp2_with (first | (refine lO 2 (L.bk_ 1 rfl) ?_) | (refine sO 4 9 (L.bk_ 0 rfl) rfl rfl ?_))
 generalize hal:World.setRow _ _ _=w3
 replace L:=L.rr0 hal
 clear hal
 refine eC Tryz.results147 (L.bk_ 0 rfl) ?_
 exact ⟨rfl,L.K⟩
theorem anew_any :
  Calls Tryz.prog 161 #[.agg (opv h s)] w (RetOp (swH h) (swLe s 6) w):=by
 rcases s with ⟨kind,addr,err,aad,used,phase,shard,sought,leaf,bit,word,full,at_,tries,item,stamp⟩
 rcases h with ⟨A0,n0,c0,A1,n1,c1,A2,n2,c2,A3,n3,c3⟩
 try dsimp only at *
 go_enter Tryz.func161,Tryz.ntmps161
 go_upto_region 1 with (fail)
 have L:=Loc.start w
 generalize hal:World.alloc _ _=w1
 replace L:=L.a2 hal
 clear hal
 replace L:=L.is0 (opv hd0 sc0) rfl
 generalize w.heap.size+1=gR at L ⊢
 generalize w.heap.size=gO at L ⊢
 go_wp2_with (refine lO 1 (L.bk_ 1 rfl) ?_)
 refine (leave_any 6).mono ?_
 rintro e w2 ⟨rfl,K'⟩
 replace L:=L.over K'
 go_wp2_with (refine sO 2 4 (L.bk_ 0 rfl) rfl rfl ?_)
 generalize hal:World.setRow _ _ _=w3
 replace L:=L.rr0 hal
 clear hal
 refine eC Tryz.results161 (L.bk_ 0 rfl) ?_
 exact ⟨rfl,L.K⟩
theorem full_not :
  Calls Tryz.prog 145 #[.agg #[.int .u32 (a:Int),.int .i64 p,.slice A n c,.int .i64 sh,.int .i64 wo,.int .i64 qu,.int .i64 tr],.agg (opv h s),.bool false] w (fun e w'=>e=.returned (.tuple #[.agg (opv (swH h) (swLe s 6)),.bool false])∧Below w.heap.size w w'):=by
 rcases s with ⟨kind,addr,err,aad,used,phase,shard,sought,leaf,bit,word,full,at_,tries,item,stamp⟩
 rcases h with ⟨A0,n0,c0,A1,n1,c1,A2,n2,c2,A3,n3,c3⟩
 try dsimp only at *
 go_enter Tryz.func145,Tryz.ntmps145
 go_upto_region 1 with (fail)
 have L:=Loc.start w
 generalize hal:World.alloc _ _=w1
 replace L:=L.a3 hal
 clear hal
 replace L:=L.is0 (opv hd0 sc0) rfl
 generalize w.heap.size+1+1=gR at L ⊢
 generalize w.heap.size+1=gO at L ⊢
 generalize w.heap.size=gH at L ⊢
 go_wp2_with (refine lO 4 (L.bk_ 1 rfl) ?_)
 refine (anew_any).mono ?_
 rintro e w2 ⟨rfl,K'⟩
 replace L:=L.over K'
 go_wp2_with (refine sO 6 11 (L.bk_ 0 rfl) rfl rfl ?_)
 generalize hal:World.setRow _ _ _=w3
 replace L:=L.rr0 hal
 clear hal
 refine eCT Tryz.results145 (.bool false) (L.bk_ 0 rfl) ?_
 exact ⟨rfl,L.K⟩
theorem full_yes :
  Calls Tryz.prog 145 #[.agg #[.int .u32 (a:Int),.int .i64 p,.slice A n c,.int .i64 sh,.int .i64 wo,.int .i64 qu,.int .i64 tr],.agg (opv h s),.bool true] w (fun e w'=>e=.returned (.tuple #[.agg (opv (swH h) (swEn s)),.bool true])∧Below w.heap.size w w'):=by
 rcases s with ⟨kind,addr,err,aad,used,phase,shard,sought,leaf,bit,word,full,at_,tries,item,stamp⟩
 rcases h with ⟨A0,n0,c0,A1,n1,c1,A2,n2,c2,A3,n3,c3⟩
 try dsimp only at *
 go_enter Tryz.func145,Tryz.ntmps145
 go_upto_region 1 with (fail)
 have L:=Loc.start w
 generalize hal:World.alloc _ _=w1
 replace L:=L.a3 hal
 clear hal
 replace L:=L.is0 (opv hd0 sc0) rfl
 generalize w.heap.size+1+1=gR at L ⊢
 generalize w.heap.size+1=gO at L ⊢
 generalize w.heap.size=gH at L ⊢
 have O_3:=L.at_ 1 3 rfl (v:=.int .i64 err) rfl
 have O_z:=L.lt 1 rfl
 have O_f3:=L.fz 1 3 rfl
 go_upto_region 4 with fail
 clear O_3 O_z O_f3
 generalize hal:World.setCell _ _ _=w2
 replace L:=L.sc1 hal (l9:=(opv ⟨A0,n0,c0,A1,n1,c1,A2,n2,c2,A3,n3,c3⟩ ⟨kind,addr,9,aad,used,phase,shard,sought,leaf,bit,word,full,at_,tries,item,stamp⟩)) rfl
 clear hal
 go_wp2_with (refine lO 4 (L.bk_ 1 rfl) ?_)
 refine (leave_any 0).mono ?_
 rintro e w3 ⟨rfl,K'⟩
 replace L:=L.over K'
 go_wp2_with (refine sO 6 15 (L.bk_ 0 rfl) rfl rfl ?_)
 generalize hal:World.setRow _ _ _=w4
 replace L:=L.rr0 hal
 clear hal
 refine eCT Tryz.results145 (.bool true) (L.bk_ 0 rfl) ?_
 exact ⟨rfl,L.K⟩
theorem used_not (ht0:0≤s.tries) (ht1:s.tries≤65536) (hne:s.tries+1≠tr) :
  Calls Tryz.prog 146 #[.agg #[.int .u32 (a:Int),.int .i64 p,.slice A n c,.int .i64 sh,.int .i64 wo,.int .i64 qu,.int .i64 tr],.agg (opv h s),.bool false] w (fun e w'=>e=.returned (.tuple #[.agg (opv (swH h) (swNt s)),.bool false])∧Below w.heap.size w w'):=by
 rcases s with ⟨kind,addr,err,aad,used,phase,shard,sought,leaf,bit,word,full,at_,tries,item,stamp⟩
 rcases h with ⟨A0,n0,c0,A1,n1,c1,A2,n2,c2,A3,n3,c3⟩
 try dsimp only at *
 have e1:IntKind.i64.wrap (tries+1)=tries+1:=IntWalk.i64_in _ (by omega)
 have e2:((tries+1:Int) != tr)=true:=by simp [hne]
 clear hne
 go_enter Tryz.func146,Tryz.ntmps146
 go_upto_region 1 with (fail)
 have L:=Loc.start w
 generalize hal:World.alloc _ _=w1
 replace L:=L.a3 hal
 clear hal
 replace L:=L.is0 (opv hd0 sc0) rfl
 generalize w.heap.size+1+1=gR at L ⊢
 generalize w.heap.size+1=gO at L ⊢
 generalize w.heap.size=gH at L ⊢
 have O_17:=L.at_ 1 17 rfl (v:=.int .i64 tries) rfl
 have O_z:=L.lt 1 rfl
 have O_f17:=L.fz 1 17 rfl
 go_upto_region 5 with fail
 clear O_17 O_z O_f17
 generalize hal:World.setCell _ _ _=w2
 replace L:=L.sc1 hal (l9:=(opv ⟨A0,n0,c0,A1,n1,c1,A2,n2,c2,A3,n3,c3⟩ ⟨kind,addr,err,aad,used,phase,shard,sought,leaf,bit,word,full,at_,(tries+1),item,stamp⟩)) rfl
 clear hal
 have O_17:=L.at_ 1 17 rfl (v:=.int .i64 (tries+1)) rfl
 have H_6:=L.at_ 2 6 rfl (v:=.int .i64 tr) rfl
 have O_z:=L.lt 1 rfl
 have H_z:=L.lt 2 rfl
 go_wp2_with (refine lO 4 (L.bk_ 1 rfl) ?_)
 refine (anew_any).mono ?_
 rintro e w3 ⟨rfl,K'⟩
 clear O_17 H_6 O_z H_z
 replace L:=L.over K'
 go_wp2_with (refine sO 6 27 (L.bk_ 0 rfl) rfl rfl ?_)
 generalize hal:World.setRow _ _ _=w4
 replace L:=L.rr0 hal
 clear hal
 refine eCT Tryz.results146 (.bool false) (L.bk_ 0 rfl) ?_
 exact ⟨rfl,L.K⟩
theorem used_out (ht0:0≤s.tries) (ht1:s.tries≤65536) (hne:s.tries+1=tr) :
  Calls Tryz.prog 146 #[.agg #[.int .u32 (a:Int),.int .i64 p,.slice A n c,.int .i64 sh,.int .i64 wo,.int .i64 qu,.int .i64 tr],.agg (opv h s),.bool false] w (fun e w'=>e=.returned (.tuple #[.agg (opv (swH h) (swRt s)),.bool true])∧Below w.heap.size w w'):=by
 rcases s with ⟨kind,addr,err,aad,used,phase,shard,sought,leaf,bit,word,full,at_,tries,item,stamp⟩
 rcases h with ⟨A0,n0,c0,A1,n1,c1,A2,n2,c2,A3,n3,c3⟩
 try dsimp only at *
 have e1:IntKind.i64.wrap (tries+1)=tries+1:=IntWalk.i64_in _ (by omega)
 have e2:((tries+1:Int) != tr)=false:=by simp [hne]
 clear hne
 go_enter Tryz.func146,Tryz.ntmps146
 go_upto_region 1 with (fail)
 have L:=Loc.start w
 generalize hal:World.alloc _ _=w1
 replace L:=L.a3 hal
 clear hal
 replace L:=L.is0 (opv hd0 sc0) rfl
 generalize w.heap.size+1+1=gR at L ⊢
 generalize w.heap.size+1=gO at L ⊢
 generalize w.heap.size=gH at L ⊢
 have O_17:=L.at_ 1 17 rfl (v:=.int .i64 tries) rfl
 have O_z:=L.lt 1 rfl
 have O_f17:=L.fz 1 17 rfl
 go_upto_region 5 with fail
 clear O_17 O_z O_f17
 generalize hal:World.setCell _ _ _=w2
 replace L:=L.sc1 hal (l9:=(opv ⟨A0,n0,c0,A1,n1,c1,A2,n2,c2,A3,n3,c3⟩ ⟨kind,addr,err,aad,used,phase,shard,sought,leaf,bit,word,full,at_,(tries+1),item,stamp⟩)) rfl
 clear hal
 have O_17:=L.at_ 1 17 rfl (v:=.int .i64 (tries+1)) rfl
 have H_6:=L.at_ 2 6 rfl (v:=.int .i64 tr) rfl
 have O_3:=L.at_ 1 3 rfl (v:=.int .i64 err) rfl
 have O_z:=L.lt 1 rfl
 have H_z:=L.lt 2 rfl
 have O_f3:=L.fz 1 3 rfl
 have ne_O_H:=L.ne_ 1 2 rfl rfl (by decide)
 go_upto_region 8 with fail
 clear O_17 H_6 O_3 O_z H_z O_f3 ne_O_H
 generalize hal:World.setCell _ _ _=w3
 replace L:=L.sc1 hal (l9:=(opv ⟨A0,n0,c0,A1,n1,c1,A2,n2,c2,A3,n3,c3⟩ ⟨kind,addr,11,aad,used,phase,shard,sought,leaf,bit,word,full,at_,(tries+1),item,stamp⟩)) rfl
 clear hal
 go_wp2_with (refine lO 4 (L.bk_ 1 rfl) ?_)
 refine (leave_any 0).mono ?_
 rintro e w4 ⟨rfl,K'⟩
 replace L:=L.over K'
 go_wp2_with (refine sO 6 31 (L.bk_ 0 rfl) rfl rfl ?_)
 generalize hal:World.setRow _ _ _=w5
 replace L:=L.rr0 hal
 clear hal
 refine eCT Tryz.results146 (.bool true) (L.bk_ 0 rfl) ?_
 exact ⟨rfl,L.K⟩
theorem used_yes {lz:Nat} {zs:List Int} (ha:a<4294967296) (hM:Much a p M) (hI:IS .i64 lz w A n c zs) (hn:n≤65536) (hr:risB M 0 zs=true) (hS:US w h.A3 h.n3 h.c3 sn) (hl:h.n3=lv M) :
  Calls Tryz.prog 146 #[.agg #[.int .u32 (a:Int),.int .i64 p,.slice A n c,.int .i64 sh,.int .i64 wo,.int .i64 qu,.int .i64 tr],.agg (opv h s),.bool true] w (fun e w'=>∃ A1 n1 c1,e=.returned (.tuple #[.agg (opv ⟨h.A0,h.n0,h.c0,A1,n1,c1,h.A2,h.n2,h.c2,none,0,0⟩ (swDn s)),.bool true])∧IS .u32 w.heap.size w' A1 n1 c1 (ads a (os (uf zs sn) M))∧Below w.heap.size w w'):=by
 have TA:=fun w (I:IS .i64 lz w A n c zs) (S:US w h.A3 h.n3 h.c3 sn)=>Lib.hid (sadrs_any (w:=w) (sh:=sh) (wo:=wo) (qu:=qu) (tr:=tr) ha hM I hn hr S hl)
 generalize ads a (os (uf zs sn) M)=xo at TA ⊢
 clear hl ha hM
 rcases s with ⟨kind,addr,err,aad,used,phase,shard,sought,leaf,bit,word,full,at_,tries,item,stamp⟩
 rcases h with ⟨A0,n0,c0,A1,n1,c1,A2,n2,c2,A3,n3,c3⟩
 try dsimp only at *
 go_enter Tryz.func146,Tryz.ntmps146
 go_upto_region 1 with (fail)
 have L:=Loc.start w
 generalize hal:World.alloc _ _=w1
 replace L:=L.a3 hal
 clear hal
 replace L:=L.is0 (opv hd0 sc0) rfl
 generalize w.heap.size+1+1=gR at L ⊢
 generalize w.heap.size+1=gO at L ⊢
 generalize w.heap.size=gH at L ⊢
 have O_15:=L.at_ 1 15 rfl (v:=.slice A3 n3 c3) rfl
 have O_z:=L.lt 1 rfl
 go_wp2_with (refine lC 3 (L.bk_ 2 rfl) ?_)
 have KS:=L.K.size
 refine ((TA _ (hI.below L.K) (hS.below L.K)).out).mono ?_
 rintro e w2 ⟨A1x,n1x,c1x,rfl,IX,K'⟩
 clear O_15 O_z
 have Lb:=L.lts
 replace L:=L.over K'
 replace L:=L.is_new Lb IX
 clear Lb
 try dsimp only [lF,List.cons_append,List.nil_append] at L
 clear IX
 have O_6:=L.at_ 1 6 rfl (v:=.slice A1 n1 c1) rfl
 have O_z:=L.lt 1 rfl
 have O_f6:=L.fz 1 6 rfl
 go_upto_region 3 with fail
 clear O_6 O_z O_f6
 generalize hal:World.setCell _ _ _=w3
 replace L:=L.sc1 hal (l9:=(opv ⟨A0,n0,c0,A1x,n1x,c1x,A2,n2,c2,A3,n3,c3⟩ ⟨kind,addr,err,aad,used,phase,shard,sought,leaf,bit,word,full,at_,tries,item,stamp⟩)) rfl
 clear hal
 go_wp2_with (refine lO 4 (L.bk_ 1 rfl) ?_)
 refine (leave_any 0).mono ?_
 rintro e w4 ⟨rfl,K'⟩
 replace L:=L.over K'
 go_wp2_with (refine sO 6 16 (L.bk_ 0 rfl) rfl rfl ?_)
 generalize hal:World.setRow _ _ _=w5
 replace L:=L.rr0 hal
 clear hal
 refine eCT Tryz.results146 (.bool true) (L.bk_ 0 rfl) ?_
 exact ⟨_,_,_,rfl,(L.is_ 0 rfl).lower KS,L.K⟩
end
theorem sen_z (w:World):(zeroValue 159).run Tryz.prog w=.ok .nilFunc w:=by kernel_rfl
abbrev sen_l:List (Int×Nat):=[(6,146),(1,145)]
theorem sen_any (w:World) :
  Calls Tryz.prog 129 #[] w fun e w'=>∃ gm,e=.returned (.map (some gm))∧FMap w' gm sen_l∧w.heap.size≤gm∧Below w.heap.size w w':=by
 have hmm:=@run_makeMap Tryz.prog
 have O0:FMap (w.alloc (.map #[] 0)) w.heap.size []:=World.ownsMap_made w Tryz.prog 3 fnElem
 have K0:=below_alloc w (.map #[] 0)
 go_enter Tryz.func129,Tryz.ntmps129
 obtain ⟨w1,H1,O1,G1⟩:=O0.put Tryz.underlying161 (by decide) 1 145 (by decide)
 obtain ⟨w2,H2,O2,G2⟩:=O1.put Tryz.underlying161 (by decide) 6 146 (by decide)
 go_wp2
 have K1:=K0.grown G1 (Nat.le_trans (Nat.le_refl _) K0.size) (by intro j hj;injection hj with hj;omega)
 have K2:=K1.grown G2 (Nat.le_trans (Nat.le_refl _) K1.size) (by intro j hj;injection hj with hj;omega)
 go_ret
 exact ⟨_,rfl,O2,Nat.le_refl _,K2⟩
end Go.Proofs.YtfhefofkhmkcnaaGreatDoor

/-
 What sweep.first answers of a Grant. Conditions: a block that may be,a leaf that there is.
-/
namespace Go.Proofs.YtfhefofkhmkcnaaGreatDoor
set_option maxRecDepth 100000
set_option maxRecDepth 100000
set_option maxRecDepth 100000
open Go.RowKit
set_option maxHeartbeats 8000000
set_option linter.unusedVariables false
section
variable {w w1:World} {lo gPR gPO gPH a M m d tt:Nat} {p sh wo qu tr ph:Int} {A B:Option Addr} {n c:Nat} {sn ys:List Nat} {h:Hd} {s:Sc} {l:Ls}
theorem sfirst_found (hU:US w B m d ys) (hat:s.at_=(tt:Int)) (hlm:tt<m) (hk:s.kind=1) (hb:fb (gt ys tt) 32=true) :
  Calls Tryz.prog 130 #[.agg #[.int .u32 (a:Int),.int .i64 p,.slice A n c,.int .i64 sh,.int .i64 wo,.int .i64 qu,.int .i64 tr],.slice B m d,.agg (opv h s)] w (RetOp (swH h) (swFc s (gt ys tt) (fi (gt ys tt) 32)) w):=by
 have TL:=fun w (U:US w B m d ys)=>Lib.hid (load_nat U tt hlm)
 have TF:=fun w=>Lib.hid (wfirst_any (gt ys tt) (gt_lt hU.fit tt) w)
 simp only [hb] at TF
 generalize fi (gt ys tt) 32=f at TF ⊢
 clear hb
 generalize gt ys tt=x at TL TF ⊢
 rcases s with ⟨kind,addr,err,aad,used,phase,shard,sought,leaf,bit,word,full,at_,tries,item,stamp⟩
 rcases h with ⟨A0,n0,c0,A1,n1,c1,A2,n2,c2,A3,n3,c3⟩
 try dsimp only at *
 subst hk hat
 go_enter Tryz.func130,Tryz.ntmps130
 go_upto_region 1 with (fail)
 have L:=Loc.start w
 generalize hal:World.alloc _ _=w1
 replace L:=L.a3 hal
 clear hal
 replace L:=L.is0 (opv hd0 sc0) rfl
 generalize w.heap.size+1+1=gR at L ⊢
 generalize w.heap.size+1=gO at L ⊢
 generalize w.heap.size=gH at L ⊢
 have O_16:=L.at_ 1 16 rfl (v:=.int .i64 (tt:Int)) rfl
 have O_z:=L.lt 1 rfl
 go_wp2_with fail
 refine ((TL _ (hU.below L.K)).out).mono ?_
 rintro e w' ⟨rfl,rfl⟩
 clear O_16 O_z
 go_wp2_with fail
 refine ((TF _).out).mono ?_
 rintro e w' ⟨rfl,rfl⟩
 have O_0:=L.at_ 1 0 rfl (v:=.int .i64 1) rfl
 have O_16:=L.at_ 1 16 rfl (v:=.int .i64 (tt:Int)) rfl
 have O_11:=L.at_ 1 11 rfl (v:=.int .i64 leaf) rfl
 have O_13:=L.at_ 1 13 rfl (v:=.int .u64 ((word:Nat):Int)) rfl
 have O_12:=L.at_ 1 12 rfl (v:=.int .i64 bit) rfl
 have O_z:=L.lt 1 rfl
 have O_f11:=L.fz 1 11 rfl
 have O_f13:=L.fz 1 13 rfl
 have O_f12:=L.fz 1 12 rfl
 go_upto_region 5 with fail
 clear O_0 O_16 O_11 O_13 O_12 O_z O_f11 O_f13 O_f12
 replace L:=((((L.set 1 11 rfl (.int .i64 (tt:Int))).set 1 13 rfl (.int .u64 ((x:Nat):Int))).set 1 12 rfl (.int .i64 (f:Int))).is 1 (opv ⟨A0,n0,c0,A1,n1,c1,A2,n2,c2,A3,n3,c3⟩ ⟨1,addr,err,aad,used,phase,shard,sought,(tt:Int),(f:Int),x,full,(tt:Int),tries,item,stamp⟩) rfl)
 try dsimp only [nput] at L
 generalize (((w1).setCell ⟨gO,11,none⟩ (.int .i64 (tt:Int))).setCell ⟨gO,13,none⟩ (.int .u64 ((x:Nat):Int))).setCell ⟨gO,12,none⟩ (.int .i64 (f:Int))=w2 at L ⊢
 go_wp2_with (refine lO 5 (L.bk_ 1 rfl) ?_)
 refine (leave_any 3).mono ?_
 rintro e w3 ⟨rfl,K'⟩
 replace L:=L.over K'
 go_wp2_with (refine sO 6 34 (L.bk_ 0 rfl) rfl rfl ?_)
 generalize hal:World.setRow _ _ _=w4
 replace L:=L.rr0 hal
 clear hal
 refine eC Tryz.results130 (L.bk_ 0 rfl) ?_
 exact ⟨rfl,L.K⟩
theorem sfirst_mv (ha:a<4294967296) (hM:Much a p M) (L:Loc w w1 [(gPR,43,opv hd0 sc0),(gPO,43,opv h s),(gPH,27,#[.int .u32 (a:Int),.int .i64 p,.slice A n c,.int .i64 sh,.int .i64 wo,.int .i64 qu,.int .i64 tr])] [rF .u64 41 lo h.A3 h.n3 h.c3 l.ses,iF .u32 lo h.A0 h.n0 h.c0 l.rqs,iF .u32 lo h.A1 h.n1 h.c1 l.ads,iF .i64 lo h.A2 h.n2 h.c2 l.ers,zF lo]) (hs0:SepF (.slice h.A3 h.n3 h.c3) (iF .u32 lo h.A0 h.n0 h.c0 l.rqs)) (hs1:SepF (.slice h.A3 h.n3 h.c3) (iF .u32 lo h.A1 h.n1 h.c1 l.ads)) (hs2:SepF (.slice h.A3 h.n3 h.c3) (iF .i64 lo h.A2 h.n2 h.c2 l.ers)) (hlo:w.heap.size≤lo) (hU:US w B m d ys) (hat:s.at_=(tt:Int)) (hlm:tt<m) (hn3:h.n3≤65000) (htl:tt<lv M) (hb:fb (gt ys tt) 32=false∨s.kind≠1) (hlt:tt+1<lv M) :
  Calls Tryz.prog 130 #[.agg #[.int .u32 (a:Int),.int .i64 p,.slice A n c,.int .i64 sh,.int .i64 wo,.int .i64 qu,.int .i64 tr],.slice B m d,.agg (opv h s)] w1 (RetSwL lo (swMv s) ⟨l.rqs,l.ads,l.ers,l.ses ++ [((gt ys tt:Nat):Int)]⟩ gPR gPO gPH (opv h s) #[.int .u32 (a:Int),.int .i64 p,.slice A n c,.int .i64 sh,.int .i64 wo,.int .i64 qu,.int .i64 tr] w w1):=by
 obtain ⟨i0,hi,hz0,hz1,hz2⟩:=info_parts clone64_info
 have TV:=fun w=>Lib.hid (swlv_any (w:=w) (sh:=sh) (wo:=wo) (qu:=qu) (tr:=tr) (A:=A) (n:=n) (c:=c) ha hM)
 have e1:IntKind.i64.wrap ((tt:Int)+1)=(tt:Int)+1:=IntWalk.i64_in _ (by have:=lv_le hM.most;omega)
 generalize lv M=Lv at TV hlt htl
 have e2:decide ((Lv:Int)≤(tt:Int)+1)=false:=by simp;omega
 obtain ⟨bv,hbv⟩:∃ bv,bv=fb (gt ys tt) 32:=⟨_,rfl⟩
 have hbk:Hid (bv=false∨(s.kind == 1)=false):=Lib.hid (by rw [hbv];exact hb.imp id (fun h=>by simp [h]))
 have TL:=fun w (U:US w B m d ys)=>Lib.hid (load_nat U tt hlm)
 have TF:=fun w=>Lib.hid (wfirst_any (gt ys tt) (gt_lt hU.fit tt) w)
 simp only [← hbv] at TF
 generalize fi (gt ys tt) 32=f at TF ⊢
 clear hb hbv
 generalize gt ys tt=x at TL TF ⊢
 clear hlt htl ha hM
 rcases s with ⟨kind,addr,err,aad,used,phase,shard,sought,leaf,bit,word,full,at_,tries,item,stamp⟩
 rcases h with ⟨A0,n0,c0,A1,n1,c1,A2,n2,c2,A3,n3,c3⟩
 try dsimp only at *
 subst hat
 go_enter Tryz.func130,Tryz.ntmps130
 go_upto_region 1 with (fail)
 generalize hal:World.alloc _ _=w6
 replace L:=L.a3 hal
 clear hal
 replace L:=L.is0 (opv hd0 sc0) rfl
 generalize w1.heap.size+1+1=gR at L ⊢
 generalize w1.heap.size+1=gO at L ⊢
 generalize w1.heap.size=gH at L ⊢
 have O_16:=L.at_ 1 16 rfl (v:=.int .i64 (tt:Int)) rfl
 have O_z:=L.lt 1 rfl
 go_wp2_with fail
 refine ((TL _ (hU.below L.K)).out).mono ?_
 rintro e w' ⟨rfl,rfl⟩
 clear O_16 O_z
 go_wp2_with fail
 refine ((TF _).out).mono ?_
 rintro e w' ⟨rfl,rfl⟩
 go_upto_region 3 with (fail)
 replace hbk:bv=false∨bv=true∧(kind == 1)=false:=by rcases hbk.out with h | h;exact .inl h;cases bv;exact .inl rfl;exact .inr ⟨rfl,h⟩
 rcases hbk with rfl | ⟨rfl,hk1⟩
 all_goals (
  obtain ⟨AE,cE,wAE,hapE,LA⟩:=L.app1 (P:=Tryz.prog) (x:=((x:Nat):Int)) (SepL.cons hs0 (SepL.cons hs1 (SepL.cons hs2 (SepL.cons SepF.z SepL.nil)))) hlo (by omega) (L.sz_ 4 rfl) Tryz.underlying34 hi hz0 hz1 hz2 34
  have O_0:=L.at_ 1 0 rfl (v:=.int .i64 kind) rfl
  have O_15:=L.at_ 1 15 rfl (v:=.slice A3 n3 c3) rfl
  have O_z:=L.lt 1 rfl
  have Oa_f15:=LA.fz 1 15 rfl
  have Oa_15:=LA.at_ 1 15 rfl (v:=.slice A3 n3 c3) rfl
  have Oa_z15:=LA.lt 1 rfl
  go_upto_region 7 with (at_builtin;refine wpList_append_run rfl (.tmp 36) (.tmp 38) 34 rfl _ _ _ _ rfl rfl hapE ?_)
  clear O_0 O_15 O_z Oa_f15 Oa_15 Oa_z15
  replace L:=((LA.set 1 15 rfl (.slice AE (n3+1) cE)).is 1 (opv ⟨A0,n0,c0,A1,n1,c1,A2,n2,c2,AE,(n3+1),cE⟩ ⟨kind,addr,err,aad,used,phase,shard,sought,leaf,bit,word,full,(tt:Int),tries,item,stamp⟩) rfl)
  clear LA hapE
  try dsimp only [nput] at L
  generalize (wAE).setCell ⟨gO,15,none⟩ (.slice AE (n3+1) cE)=w7 at L ⊢
  have O_16:=L.at_ 1 16 rfl (v:=.int .i64 (tt:Int)) rfl
  have O_z:=L.lt 1 rfl
  have O_f16:=L.fz 1 16 rfl
  go_upto_region 8 with fail
  clear O_16 O_z O_f16
  generalize hal:World.setCell _ _ _=w8
  replace L:=L.sc1 hal (l9:=(opv ⟨A0,n0,c0,A1,n1,c1,A2,n2,c2,AE,(n3+1),cE⟩ ⟨kind,addr,err,aad,used,phase,shard,sought,leaf,bit,word,full,((tt:Int)+1),tries,item,stamp⟩)) rfl
  clear hal
  refine rg L fun v9 hHeld=>?_
  replace L:=hHeld
  refine tg 0 45 (.pointer (some ⟨gO,16,none⟩)) rfl hHeld ?_
  refine tC 1 46 1 16 rfl rfl rfl hHeld ?_
  refine tR 2 47 3 2 rfl rfl Tryz.underlying27 cf_sz hHeld ?_
  refine rd 3 48 rfl fun K0 hK=>?_
  go_simp
  refine ((TV _).out).mono ?_
  rintro e w10 ⟨rfl,K'⟩
  replace L:=L.over K'
  refine hK.out _ _ L ?_
  clear hHeld hK K0
  intro hHeld
  clear K'
  try simp only [Act.put,sA,sZ,sS]
  refine tg 4 49 (.bool false) rfl hHeld ?_
  refine wpAnyH_done (by kernel_rfl) ?_ _
  clear hHeld
  go_wp2_with (first | (refine lO 5 (L.bk_ 1 rfl) ?_) | (refine sO 6 52 (L.bk_ 0 rfl) rfl rfl ?_))
  generalize hal:World.setRow _ _ _=w11
  replace L:=L.rr0 hal
  clear hal
  refine eC Tryz.results130 (L.bk_ 0 rfl) ?_
  exact ⟨_,rfl,⟨L.is_ 1 rfl,L.is_ 2 rfl,L.is_ 3 rfl,(L.ri_ 0 rfl).is⟩,((((L.del 0).del 0).del 0).only (fun f h=>by cases h))⟩)
theorem sfirst_ag (ha:a<4294967296) (hM:Much a p M) (L:Loc w w1 [(gPR,43,opv hd0 sc0),(gPO,43,opv h s),(gPH,27,#[.int .u32 (a:Int),.int .i64 p,.slice A n c,.int .i64 sh,.int .i64 wo,.int .i64 qu,.int .i64 tr])] [rF .u64 41 lo h.A3 h.n3 h.c3 l.ses,iF .u32 lo h.A0 h.n0 h.c0 l.rqs,iF .u32 lo h.A1 h.n1 h.c1 l.ads,iF .i64 lo h.A2 h.n2 h.c2 l.ers,zF lo]) (hs0:SepF (.slice h.A3 h.n3 h.c3) (iF .u32 lo h.A0 h.n0 h.c0 l.rqs)) (hs1:SepF (.slice h.A3 h.n3 h.c3) (iF .u32 lo h.A1 h.n1 h.c1 l.ads)) (hs2:SepF (.slice h.A3 h.n3 h.c3) (iF .i64 lo h.A2 h.n2 h.c2 l.ers)) (hlo:w.heap.size≤lo) (hU:US w B m d ys) (hat:s.at_=(tt:Int)) (hlm:tt<m) (hn3:h.n3≤65000) (htl:tt<lv M) (hb:fb (gt ys tt) 32=false∨s.kind≠1) (hlt:¬ tt+1<lv M) :
  Calls Tryz.prog 130 #[.agg #[.int .u32 (a:Int),.int .i64 p,.slice A n c,.int .i64 sh,.int .i64 wo,.int .i64 qu,.int .i64 tr],.slice B m d,.agg (opv h s)] w1 (RetSwL lo (swAg s) ⟨l.rqs,l.ads,l.ers,l.ses ++ [((gt ys tt:Nat):Int)]⟩ gPR gPO gPH (opv h s) #[.int .u32 (a:Int),.int .i64 p,.slice A n c,.int .i64 sh,.int .i64 wo,.int .i64 qu,.int .i64 tr] w w1):=by
 obtain ⟨i0,hi,hz0,hz1,hz2⟩:=info_parts clone64_info
 have TV:=fun w=>Lib.hid (swlv_any (w:=w) (sh:=sh) (wo:=wo) (qu:=qu) (tr:=tr) (A:=A) (n:=n) (c:=c) ha hM)
 have e1:IntKind.i64.wrap ((tt:Int)+1)=(tt:Int)+1:=IntWalk.i64_in _ (by have:=lv_le hM.most;omega)
 generalize lv M=Lv at TV hlt htl
 have e2:decide ((Lv:Int)≤(tt:Int)+1)=true:=by simp;omega
 obtain ⟨bv,hbv⟩:∃ bv,bv=fb (gt ys tt) 32:=⟨_,rfl⟩
 have hbk:Hid (bv=false∨(s.kind == 1)=false):=Lib.hid (by rw [hbv];exact hb.imp id (fun h=>by simp [h]))
 have TL:=fun w (U:US w B m d ys)=>Lib.hid (load_nat U tt hlm)
 have TF:=fun w=>Lib.hid (wfirst_any (gt ys tt) (gt_lt hU.fit tt) w)
 simp only [← hbv] at TF
 generalize fi (gt ys tt) 32=f at TF ⊢
 clear hb hbv
 generalize gt ys tt=x at TL TF ⊢
 clear hlt htl ha hM
 rcases s with ⟨kind,addr,err,aad,used,phase,shard,sought,leaf,bit,word,full,at_,tries,item,stamp⟩
 rcases h with ⟨A0,n0,c0,A1,n1,c1,A2,n2,c2,A3,n3,c3⟩
 try dsimp only at *
 subst hat
 go_enter Tryz.func130,Tryz.ntmps130
 go_upto_region 1 with (fail)
 generalize hal:World.alloc _ _=w6
 replace L:=L.a3 hal
 clear hal
 replace L:=L.is0 (opv hd0 sc0) rfl
 generalize w1.heap.size+1+1=gR at L ⊢
 generalize w1.heap.size+1=gO at L ⊢
 generalize w1.heap.size=gH at L ⊢
 have O_16:=L.at_ 1 16 rfl (v:=.int .i64 (tt:Int)) rfl
 have O_z:=L.lt 1 rfl
 go_wp2_with fail
 refine ((TL _ (hU.below L.K)).out).mono ?_
 rintro e w' ⟨rfl,rfl⟩
 clear O_16 O_z
 go_wp2_with fail
 refine ((TF _).out).mono ?_
 rintro e w' ⟨rfl,rfl⟩
 go_upto_region 3 with (fail)
 replace hbk:bv=false∨bv=true∧(kind == 1)=false:=by rcases hbk.out with h | h;exact .inl h;cases bv;exact .inl rfl;exact .inr ⟨rfl,h⟩
 rcases hbk with rfl | ⟨rfl,hk1⟩
 all_goals (
  obtain ⟨AE,cE,wAE,hapE,LA⟩:=L.app1 (P:=Tryz.prog) (x:=((x:Nat):Int)) (SepL.cons hs0 (SepL.cons hs1 (SepL.cons hs2 (SepL.cons SepF.z SepL.nil)))) hlo (by omega) (L.sz_ 4 rfl) Tryz.underlying34 hi hz0 hz1 hz2 34
  have O_0:=L.at_ 1 0 rfl (v:=.int .i64 kind) rfl
  have O_15:=L.at_ 1 15 rfl (v:=.slice A3 n3 c3) rfl
  have O_z:=L.lt 1 rfl
  have Oa_f15:=LA.fz 1 15 rfl
  have Oa_15:=LA.at_ 1 15 rfl (v:=.slice A3 n3 c3) rfl
  have Oa_z15:=LA.lt 1 rfl
  go_upto_region 7 with (at_builtin;refine wpList_append_run rfl (.tmp 36) (.tmp 38) 34 rfl _ _ _ _ rfl rfl hapE ?_)
  clear O_0 O_15 O_z Oa_f15 Oa_15 Oa_z15
  replace L:=((LA.set 1 15 rfl (.slice AE (n3+1) cE)).is 1 (opv ⟨A0,n0,c0,A1,n1,c1,A2,n2,c2,AE,(n3+1),cE⟩ ⟨kind,addr,err,aad,used,phase,shard,sought,leaf,bit,word,full,(tt:Int),tries,item,stamp⟩) rfl)
  clear LA hapE
  try dsimp only [nput] at L
  generalize (wAE).setCell ⟨gO,15,none⟩ (.slice AE (n3+1) cE)=w7 at L ⊢
  have O_16:=L.at_ 1 16 rfl (v:=.int .i64 (tt:Int)) rfl
  have O_z:=L.lt 1 rfl
  have O_f16:=L.fz 1 16 rfl
  go_upto_region 8 with fail
  clear O_16 O_z O_f16
  generalize hal:World.setCell _ _ _=w8
  replace L:=L.sc1 hal (l9:=(opv ⟨A0,n0,c0,A1,n1,c1,A2,n2,c2,AE,(n3+1),cE⟩ ⟨kind,addr,err,aad,used,phase,shard,sought,leaf,bit,word,full,((tt:Int)+1),tries,item,stamp⟩)) rfl
  clear hal
  refine rg L fun v9 hHeld=>?_
  replace L:=hHeld
  refine tg 0 45 (.pointer (some ⟨gO,16,none⟩)) rfl hHeld ?_
  refine tC 1 46 1 16 rfl rfl rfl hHeld ?_
  refine tR 2 47 3 2 rfl rfl Tryz.underlying27 cf_sz hHeld ?_
  refine rd 3 48 rfl fun K0 hK=>?_
  go_simp
  refine ((TV _).out).mono ?_
  rintro e w10 ⟨rfl,K'⟩
  replace L:=L.over K'
  refine hK.out _ _ L ?_
  clear hHeld hK K0
  intro hHeld
  clear K'
  try simp only [Act.put,sA,sZ,sS]
  refine tg 4 49 (.bool true) rfl hHeld ?_
  refine wpAnyH_done (by kernel_rfl) ?_ _
  clear hHeld
  have O_8:=L.at_ 1 8 rfl (v:=.int .i64 phase) rfl
  have O_16:=L.at_ 1 16 rfl (v:=.int .i64 (((tt:Int)+1))) rfl
  have O_z:=L.lt 1 rfl
  have O_f8:=L.fz 1 8 rfl
  have O_f16:=L.fz 1 16 rfl
  go_upto_region 10 with fail
  clear O_8 O_16 O_z O_f8 O_f16
  replace L:=(((L.set 1 8 rfl (.int .i64 7)).set 1 16 rfl (.int .i64 0)).is 1 (opv ⟨A0,n0,c0,A1,n1,c1,A2,n2,c2,AE,(n3+1),cE⟩ ⟨kind,addr,err,aad,used,7,shard,sought,leaf,bit,word,full,0,tries,item,stamp⟩) rfl)
  try dsimp only [nput] at L
  generalize ((w10).setCell ⟨gO,8,none⟩ (.int .i64 7)).setCell ⟨gO,16,none⟩ (.int .i64 0)=w11 at L ⊢
  go_wp2_with (first | (refine lO 5 (L.bk_ 1 rfl) ?_) | (refine sO 6 52 (L.bk_ 0 rfl) rfl rfl ?_))
  generalize hal:World.setRow _ _ _=w12
  replace L:=L.rr0 hal
  clear hal
  refine eC Tryz.results130 (L.bk_ 0 rfl) ?_
  exact ⟨_,rfl,⟨L.is_ 1 rfl,L.is_ 2 rfl,L.is_ 3 rfl,(L.ri_ 0 rfl).is⟩,((((L.del 0).del 0).del 0).only (fun f h=>by cases h))⟩)
end
end Go.Proofs.YtfhefofkhmkcnaaGreatDoor

/-
 What sweep.again answers of a Grant. Conditions: a block that may be,a leaf that there is,and was seen.
-/
namespace Go.Proofs.YtfhefofkhmkcnaaGreatDoor
set_option maxRecDepth 100000
set_option maxRecDepth 100000
set_option maxRecDepth 100000
open Go.RowKit
set_option maxHeartbeats 8000000
set_option linter.unusedVariables false
section
variable {w w1:World} {lo gPR gPO gPH a M m d tt:Nat} {p sh wo qu tr ph:Int} {A B:Option Addr} {n c:Nat} {sn ys:List Nat} {h:Hd} {s:Sc} {l:Ls}
theorem sagain_not (ha:a<4294967296) (hM:Much a p M) (hI:IS .u64 lo w h.A3 h.n3 h.c3 (sn.map Int.ofNat)) (hf:∀ x∈sn,x<U64) (hU:US w B m d ys) (hat:s.at_=(tt:Int)) (hlm:tt<m) (htl:tt<lv M) (hn3:tt<h.n3) (hL:Lists lo w h l) (hne:¬ gt ys tt=gt sn tt) :
  Calls Tryz.prog 131 #[.agg #[.int .u32 (a:Int),.int .i64 p,.slice A n c,.int .i64 sh,.int .i64 wo,.int .i64 qu,.int .i64 tr],.slice B m d,.agg (opv h s),.func (.func 145) #[] #[]] w (RetSw lo (swLe s 6) (swNo l) false w):=by
 have hS:=hI.seen hf
 have TL:=fun w (U:US w B m d ys)=>Lib.hid (load_nat U tt hlm)
 have TS:=fun w (U:US w h.A3 h.n3 h.c3 sn)=>Lib.hid (load_nat U tt hn3)
 have TV:=fun w=>Lib.hid (swlv_any (w:=w) (sh:=sh) (wo:=wo) (qu:=qu) (tr:=tr) (A:=A) (n:=n) (c:=c) ha hM)
 have e1:IntKind.i64.wrap ((tt:Int)+1)=(tt:Int)+1:=IntWalk.i64_in _ (by have:=lv_le hM.most;omega)
 generalize hx:gt ys tt=x at TL hne
 generalize hy:gt sn tt=y at TS hne
 clear hx hy
 have e3:((x:Int) != (y:Int))=true:=by simp;omega
 have e4:(x != y)=true:=by simp [hne]
 clear hne
 clear htl ha hM hI
 rcases s with ⟨kind,addr,err,aad,used,phase,shard,sought,leaf,bit,word,full,at_,tries,item,stamp⟩
 rcases h with ⟨A0,n0,c0,A1,n1,c1,A2,n2,c2,A3,n3,c3⟩
 try dsimp only at *
 subst hat
 go_enter Tryz.func131,Tryz.ntmps131
 go_upto_region 1 with (fail)
 have L:=Loc.start w
 generalize hal:World.alloc _ _=w1
 replace L:=L.a3 hal
 clear hal
 replace L:=L.is0 (opv hd0 sc0) rfl
 generalize w.heap.size+1+1=gR at L ⊢
 generalize w.heap.size+1=gO at L ⊢
 generalize w.heap.size=gH at L ⊢
 refine rg L fun v2 hHeld=>?_
 replace L:=hHeld
 refine tg 0 10 (.slice B m d) rfl hHeld ?_
 refine tg 1 11 (.pointer (some ⟨gO,16,none⟩)) rfl hHeld ?_
 refine tC 2 12 1 16 rfl rfl rfl hHeld ?_
 refine tg 4 14 (.pointer (some ⟨gO,15,none⟩)) rfl hHeld ?_
 refine tC 5 15 1 15 rfl rfl rfl hHeld ?_
 refine tg 6 16 (.pointer (some ⟨gO,16,none⟩)) rfl hHeld ?_
 refine tC 7 17 1 16 rfl rfl rfl hHeld ?_
 refine rd 3 13 rfl fun K0 hK=>?_
 go_simp
 refine ((TL _ (hU.below L.K)).out).mono ?_
 rintro e w' ⟨rfl,rfl⟩
 refine hK.out _ _ L ?_
 clear hHeld hK K0
 intro hHeld
 try simp only [Act.put,sA,sZ,sS]
 refine rd 8 18 rfl fun K0 hK=>?_
 go_simp
 refine ((TS _ (hS.below L.K)).out).mono ?_
 rintro e w' ⟨rfl,rfl⟩
 refine hK.out _ _ L ?_
 clear hHeld hK K0
 intro hHeld
 try simp only [Act.put,sA,sZ,sS]
 refine tg 9 19 (.bool true) rfl hHeld ?_
 refine wpAnyH_done (by kernel_rfl) ?_ _
 clear hHeld
 go_wp2_with (first | (refine lC 4 (L.bk_ 2 rfl) ?_) | (refine lO 6 (L.bk_ 1 rfl) ?_))
 refine (full_not).mono ?_
 rintro e w3 ⟨rfl,K'⟩
 replace L:=L.over K'
 go_wp2_with (refine sO 8 24 (L.bk_ 0 rfl) rfl rfl ?_)
 generalize hal:World.setRow _ _ _=w4
 replace L:=L.rr0 hal
 clear hal
 refine eCT Tryz.results131 (.bool false) (L.bk_ 0 rfl) ?_
 exact ⟨_,rfl,swLists (hL.below L.K),L.K⟩
theorem sagain_mv {f:Nat} (ha:a<4294967296) (hM:Much a p M) (hI:IS .u64 lo w h.A3 h.n3 h.c3 (sn.map Int.ofNat)) (hf:∀ x∈sn,x<U64) (hU:US w B m d ys) (hat:s.at_=(tt:Int)) (hlm:tt<m) (htl:tt<lv M) (hn3:tt<h.n3) (hL:Lists lo w h l) (hne:gt ys tt=gt sn tt) (hlt:tt+1<lv M) :
  Calls Tryz.prog 131 #[.agg #[.int .u32 (a:Int),.int .i64 p,.slice A n c,.int .i64 sh,.int .i64 wo,.int .i64 qu,.int .i64 tr],.slice B m d,.agg (opv h s),.func (.func f) #[] #[]] w (RetSw lo (swMv s) (l) false w):=by
 have hS:=hI.seen hf
 have TL:=fun w (U:US w B m d ys)=>Lib.hid (load_nat U tt hlm)
 have TS:=fun w (U:US w h.A3 h.n3 h.c3 sn)=>Lib.hid (load_nat U tt hn3)
 have TV:=fun w=>Lib.hid (swlv_any (w:=w) (sh:=sh) (wo:=wo) (qu:=qu) (tr:=tr) (A:=A) (n:=n) (c:=c) ha hM)
 have e1:IntKind.i64.wrap ((tt:Int)+1)=(tt:Int)+1:=IntWalk.i64_in _ (by have:=lv_le hM.most;omega)
 generalize lv M=Lv at TV hlt htl
 have e2:decide ((Lv:Int)≤(tt:Int)+1)=false:=by simp;omega
 simp only [hne] at TL
 generalize hy:gt sn tt=y at TL TS hne
 clear hne hy
 clear htl ha hM hI hlt
 rcases s with ⟨kind,addr,err,aad,used,phase,shard,sought,leaf,bit,word,full,at_,tries,item,stamp⟩
 rcases h with ⟨A0,n0,c0,A1,n1,c1,A2,n2,c2,A3,n3,c3⟩
 try dsimp only at *
 subst hat
 go_enter Tryz.func131,Tryz.ntmps131
 go_upto_region 1 with (fail)
 have L:=Loc.start w
 generalize hal:World.alloc _ _=w1
 replace L:=L.a3 hal
 clear hal
 replace L:=L.is0 (opv hd0 sc0) rfl
 generalize w.heap.size+1+1=gR at L ⊢
 generalize w.heap.size+1=gO at L ⊢
 generalize w.heap.size=gH at L ⊢
 refine rg L fun v2 hHeld=>?_
 replace L:=hHeld
 refine tg 0 10 (.slice B m d) rfl hHeld ?_
 refine tg 1 11 (.pointer (some ⟨gO,16,none⟩)) rfl hHeld ?_
 refine tC 2 12 1 16 rfl rfl rfl hHeld ?_
 refine tg 4 14 (.pointer (some ⟨gO,15,none⟩)) rfl hHeld ?_
 refine tC 5 15 1 15 rfl rfl rfl hHeld ?_
 refine tg 6 16 (.pointer (some ⟨gO,16,none⟩)) rfl hHeld ?_
 refine tC 7 17 1 16 rfl rfl rfl hHeld ?_
 refine rd 3 13 rfl fun K0 hK=>?_
 go_simp
 refine ((TL _ (hU.below L.K)).out).mono ?_
 rintro e w' ⟨rfl,rfl⟩
 refine hK.out _ _ L ?_
 clear hHeld hK K0
 intro hHeld
 try simp only [Act.put,sA,sZ,sS]
 refine rd 8 18 rfl fun K0 hK=>?_
 go_simp
 refine ((TS _ (hS.below L.K)).out).mono ?_
 rintro e w' ⟨rfl,rfl⟩
 refine hK.out _ _ L ?_
 clear hHeld hK K0
 intro hHeld
 try simp only [Act.put,sA,sZ,sS]
 refine tg 9 19 (.bool false) rfl hHeld ?_
 refine wpAnyH_done (by kernel_rfl) ?_ _
 clear hHeld
 have O_16:=L.at_ 1 16 rfl (v:=.int .i64 (tt:Int)) rfl
 have O_z:=L.lt 1 rfl
 have O_f16:=L.fz 1 16 rfl
 go_upto_region 4 with fail
 clear O_16 O_z O_f16
 generalize hal:World.setCell _ _ _=w3
 replace L:=L.sc1 hal (l9:=(opv ⟨A0,n0,c0,A1,n1,c1,A2,n2,c2,A3,n3,c3⟩ ⟨kind,addr,err,aad,used,phase,shard,sought,leaf,bit,word,full,((tt:Int)+1),tries,item,stamp⟩)) rfl
 clear hal
 refine rg L fun v4 hHeld=>?_
 replace L:=hHeld
 refine tg 0 30 (.pointer (some ⟨gO,16,none⟩)) rfl hHeld ?_
 refine tC 1 31 1 16 rfl rfl rfl hHeld ?_
 refine tR 2 32 4 2 rfl rfl Tryz.underlying27 cf_sz hHeld ?_
 refine rd 3 33 rfl fun K0 hK=>?_
 go_simp
 refine ((TV _).out).mono ?_
 rintro e w5 ⟨rfl,K'⟩
 replace L:=L.over K'
 refine hK.out _ _ L ?_
 clear hHeld hK K0
 intro hHeld
 clear K'
 try simp only [Act.put,sA,sZ,sS]
 refine tg 4 34 (.bool false) rfl hHeld ?_
 refine wpAnyH_done (by kernel_rfl) ?_ _
 clear hHeld
 go_wp2_with (first | (refine lO 6 (L.bk_ 1 rfl) ?_) | (refine sO 8 41 (L.bk_ 0 rfl) rfl rfl ?_))
 generalize hal:World.setRow _ _ _=w6
 replace L:=L.rr0 hal
 clear hal
 refine eCT Tryz.results131 (.bool false) (L.bk_ 0 rfl) ?_
 exact ⟨_,rfl,hL.below L.K,L.K⟩
theorem sagain_end (ha:a<4294967296) (hM:Much a p M) (hI:IS .u64 lo w h.A3 h.n3 h.c3 (sn.map Int.ofNat)) (hf:∀ x∈sn,x<U64) (hU:US w B m d ys) (hat:s.at_=(tt:Int)) (hlm:tt<m) (htl:tt<lv M) (hn3:tt<h.n3) (hL:Lists lo w h l) (hne:gt ys tt=gt sn tt) (hlt:¬ tt+1<lv M) :
  Calls Tryz.prog 131 #[.agg #[.int .u32 (a:Int),.int .i64 p,.slice A n c,.int .i64 sh,.int .i64 wo,.int .i64 qu,.int .i64 tr],.slice B m d,.agg (opv h s),.func (.func 145) #[] #[]] w (RetSw lo (swEn s) (swNo l) true w):=by
 have hS:=hI.seen hf
 have TL:=fun w (U:US w B m d ys)=>Lib.hid (load_nat U tt hlm)
 have TS:=fun w (U:US w h.A3 h.n3 h.c3 sn)=>Lib.hid (load_nat U tt hn3)
 have TV:=fun w=>Lib.hid (swlv_any (w:=w) (sh:=sh) (wo:=wo) (qu:=qu) (tr:=tr) (A:=A) (n:=n) (c:=c) ha hM)
 have e1:IntKind.i64.wrap ((tt:Int)+1)=(tt:Int)+1:=IntWalk.i64_in _ (by have:=lv_le hM.most;omega)
 generalize lv M=Lv at TV hlt htl
 have e2:decide ((Lv:Int)≤(tt:Int)+1)=true:=by simp;omega
 simp only [hne] at TL
 generalize hy:gt sn tt=y at TL TS hne
 clear hne hy
 clear htl ha hM hI hlt
 rcases s with ⟨kind,addr,err,aad,used,phase,shard,sought,leaf,bit,word,full,at_,tries,item,stamp⟩
 rcases h with ⟨A0,n0,c0,A1,n1,c1,A2,n2,c2,A3,n3,c3⟩
 try dsimp only at *
 subst hat
 go_enter Tryz.func131,Tryz.ntmps131
 go_upto_region 1 with (fail)
 have L:=Loc.start w
 generalize hal:World.alloc _ _=w1
 replace L:=L.a3 hal
 clear hal
 replace L:=L.is0 (opv hd0 sc0) rfl
 generalize w.heap.size+1+1=gR at L ⊢
 generalize w.heap.size+1=gO at L ⊢
 generalize w.heap.size=gH at L ⊢
 refine rg L fun v2 hHeld=>?_
 replace L:=hHeld
 refine tg 0 10 (.slice B m d) rfl hHeld ?_
 refine tg 1 11 (.pointer (some ⟨gO,16,none⟩)) rfl hHeld ?_
 refine tC 2 12 1 16 rfl rfl rfl hHeld ?_
 refine tg 4 14 (.pointer (some ⟨gO,15,none⟩)) rfl hHeld ?_
 refine tC 5 15 1 15 rfl rfl rfl hHeld ?_
 refine tg 6 16 (.pointer (some ⟨gO,16,none⟩)) rfl hHeld ?_
 refine tC 7 17 1 16 rfl rfl rfl hHeld ?_
 refine rd 3 13 rfl fun K0 hK=>?_
 go_simp
 refine ((TL _ (hU.below L.K)).out).mono ?_
 rintro e w' ⟨rfl,rfl⟩
 refine hK.out _ _ L ?_
 clear hHeld hK K0
 intro hHeld
 try simp only [Act.put,sA,sZ,sS]
 refine rd 8 18 rfl fun K0 hK=>?_
 go_simp
 refine ((TS _ (hS.below L.K)).out).mono ?_
 rintro e w' ⟨rfl,rfl⟩
 refine hK.out _ _ L ?_
 clear hHeld hK K0
 intro hHeld
 try simp only [Act.put,sA,sZ,sS]
 refine tg 9 19 (.bool false) rfl hHeld ?_
 refine wpAnyH_done (by kernel_rfl) ?_ _
 clear hHeld
 have O_16:=L.at_ 1 16 rfl (v:=.int .i64 (tt:Int)) rfl
 have O_z:=L.lt 1 rfl
 have O_f16:=L.fz 1 16 rfl
 go_upto_region 4 with fail
 clear O_16 O_z O_f16
 generalize hal:World.setCell _ _ _=w3
 replace L:=L.sc1 hal (l9:=(opv ⟨A0,n0,c0,A1,n1,c1,A2,n2,c2,A3,n3,c3⟩ ⟨kind,addr,err,aad,used,phase,shard,sought,leaf,bit,word,full,((tt:Int)+1),tries,item,stamp⟩)) rfl
 clear hal
 refine rg L fun v4 hHeld=>?_
 replace L:=hHeld
 refine tg 0 30 (.pointer (some ⟨gO,16,none⟩)) rfl hHeld ?_
 refine tC 1 31 1 16 rfl rfl rfl hHeld ?_
 refine tR 2 32 4 2 rfl rfl Tryz.underlying27 cf_sz hHeld ?_
 refine rd 3 33 rfl fun K0 hK=>?_
 go_simp
 refine ((TV _).out).mono ?_
 rintro e w5 ⟨rfl,K'⟩
 replace L:=L.over K'
 refine hK.out _ _ L ?_
 clear hHeld hK K0
 intro hHeld
 clear K'
 try simp only [Act.put,sA,sZ,sS]
 refine tg 4 34 (.bool true) rfl hHeld ?_
 refine wpAnyH_done (by kernel_rfl) ?_ _
 clear hHeld
 go_wp2_with (first | (refine lC 4 (L.bk_ 2 rfl) ?_) | (refine lO 6 (L.bk_ 1 rfl) ?_))
 refine (full_yes).mono ?_
 rintro e w6 ⟨rfl,K'⟩
 replace L:=L.over K'
 go_wp2_with (refine sO 8 39 (L.bk_ 0 rfl) rfl rfl ?_)
 generalize hal:World.setRow _ _ _=w7
 replace L:=L.rr0 hal
 clear hal
 refine eCT Tryz.results131 (.bool true) (L.bk_ 0 rfl) ?_
 exact ⟨_,rfl,swLists (hL.below L.K),L.K⟩
theorem nagain_not (ha:a<4294967296) (hM:Much a p M) (hI:IS .u64 lo w h.A3 h.n3 h.c3 (sn.map Int.ofNat)) (hf:∀ x∈sn,x<U64) (hU:US w B m d ys) (hat:s.at_=(tt:Int)) (hlm:tt<m) (htl:tt<lv M) (hn3:tt<h.n3) (ht0:0≤s.tries) (ht1:s.tries≤65536) (hL:Lists lo w h l) (hne:¬ gt ys tt=gt sn tt) (htr:s.tries+1≠tr) :
  Calls Tryz.prog 131 #[.agg #[.int .u32 (a:Int),.int .i64 p,.slice A n c,.int .i64 sh,.int .i64 wo,.int .i64 qu,.int .i64 tr],.slice B m d,.agg (opv h s),.func (.func 146) #[] #[]] w (RetSw lo (swNt s) (swNo l) false w):=by
 have hS:=hI.seen hf
 have TL:=fun w (U:US w B m d ys)=>Lib.hid (load_nat U tt hlm)
 have TS:=fun w (U:US w h.A3 h.n3 h.c3 sn)=>Lib.hid (load_nat U tt hn3)
 have TV:=fun w=>Lib.hid (swlv_any (w:=w) (sh:=sh) (wo:=wo) (qu:=qu) (tr:=tr) (A:=A) (n:=n) (c:=c) ha hM)
 have e1:IntKind.i64.wrap ((tt:Int)+1)=(tt:Int)+1:=IntWalk.i64_in _ (by have:=lv_le hM.most;omega)
 have TK:=fun w=>Lib.hid (used_not (w:=w) (a:=a) (p:=p) (sh:=sh) (wo:=wo) (qu:=qu) (tr:=tr) (A:=A) (n:=n) (c:=c) (h:=h) (s:=s) ht0 ht1 htr)
 generalize hx:gt ys tt=x at TL hne
 generalize hy:gt sn tt=y at TS hne
 clear hx hy
 have e3:((x:Int) != (y:Int))=true:=by simp;omega
 have e4:(x != y)=true:=by simp [hne]
 clear hne htl ha hM hI htr ht0 ht1
 rcases s with ⟨kind,addr,err,aad,used,phase,shard,sought,leaf,bit,word,full,at_,tries,item,stamp⟩
 rcases h with ⟨A0,n0,c0,A1,n1,c1,A2,n2,c2,A3,n3,c3⟩
 try dsimp only at *
 subst hat
 go_enter Tryz.func131,Tryz.ntmps131
 go_upto_region 1 with (fail)
 have L:=Loc.start w
 generalize hal:World.alloc _ _=w1
 replace L:=L.a3 hal
 clear hal
 replace L:=L.is0 (opv hd0 sc0) rfl
 generalize w.heap.size+1+1=gR at L ⊢
 generalize w.heap.size+1=gO at L ⊢
 generalize w.heap.size=gH at L ⊢
 refine rg L fun v2 hHeld=>?_
 replace L:=hHeld
 refine tg 0 10 (.slice B m d) rfl hHeld ?_
 refine tg 1 11 (.pointer (some ⟨gO,16,none⟩)) rfl hHeld ?_
 refine tC 2 12 1 16 rfl rfl rfl hHeld ?_
 refine tg 4 14 (.pointer (some ⟨gO,15,none⟩)) rfl hHeld ?_
 refine tC 5 15 1 15 rfl rfl rfl hHeld ?_
 refine tg 6 16 (.pointer (some ⟨gO,16,none⟩)) rfl hHeld ?_
 refine tC 7 17 1 16 rfl rfl rfl hHeld ?_
 refine rd 3 13 rfl fun K0 hK=>?_
 go_simp
 refine ((TL _ (hU.below L.K)).out).mono ?_
 rintro e w' ⟨rfl,rfl⟩
 refine hK.out _ _ L ?_
 clear hHeld hK K0
 intro hHeld
 try simp only [Act.put,sA,sZ,sS]
 refine rd 8 18 rfl fun K0 hK=>?_
 go_simp
 refine ((TS _ (hS.below L.K)).out).mono ?_
 rintro e w' ⟨rfl,rfl⟩
 refine hK.out _ _ L ?_
 clear hHeld hK K0
 intro hHeld
 try simp only [Act.put,sA,sZ,sS]
 refine tg 9 19 (.bool true) rfl hHeld ?_
 refine wpAnyH_done (by kernel_rfl) ?_ _
 clear hHeld
 go_wp2_with (first | (refine lC 4 (L.bk_ 2 rfl) ?_) | (refine lO 6 (L.bk_ 1 rfl) ?_))
 refine ((TK _).out).mono ?_
 rintro e w3 ⟨rfl,K'⟩
 replace L:=L.over K'
 go_wp2_with (refine sO 8 24 (L.bk_ 0 rfl) rfl rfl ?_)
 generalize hal:World.setRow _ _ _=w4
 replace L:=L.rr0 hal
 clear hal
 refine eCT Tryz.results131 (.bool false) (L.bk_ 0 rfl) ?_
 exact ⟨_,rfl,swLists (hL.below L.K),L.K⟩
theorem nagain_out (ha:a<4294967296) (hM:Much a p M) (hI:IS .u64 lo w h.A3 h.n3 h.c3 (sn.map Int.ofNat)) (hf:∀ x∈sn,x<U64) (hU:US w B m d ys) (hat:s.at_=(tt:Int)) (hlm:tt<m) (htl:tt<lv M) (hn3:tt<h.n3) (ht0:0≤s.tries) (ht1:s.tries≤65536) (hL:Lists lo w h l) (hne:¬ gt ys tt=gt sn tt) (htr:s.tries+1=tr) :
  Calls Tryz.prog 131 #[.agg #[.int .u32 (a:Int),.int .i64 p,.slice A n c,.int .i64 sh,.int .i64 wo,.int .i64 qu,.int .i64 tr],.slice B m d,.agg (opv h s),.func (.func 146) #[] #[]] w (RetSw lo (swRt s) (swNo l) true w):=by
 have hS:=hI.seen hf
 have TL:=fun w (U:US w B m d ys)=>Lib.hid (load_nat U tt hlm)
 have TS:=fun w (U:US w h.A3 h.n3 h.c3 sn)=>Lib.hid (load_nat U tt hn3)
 have TV:=fun w=>Lib.hid (swlv_any (w:=w) (sh:=sh) (wo:=wo) (qu:=qu) (tr:=tr) (A:=A) (n:=n) (c:=c) ha hM)
 have e1:IntKind.i64.wrap ((tt:Int)+1)=(tt:Int)+1:=IntWalk.i64_in _ (by have:=lv_le hM.most;omega)
 have TK:=fun w=>Lib.hid (used_out (w:=w) (a:=a) (p:=p) (sh:=sh) (wo:=wo) (qu:=qu) (tr:=tr) (A:=A) (n:=n) (c:=c) (h:=h) (s:=s) ht0 ht1 htr)
 generalize hx:gt ys tt=x at TL hne
 generalize hy:gt sn tt=y at TS hne
 clear hx hy
 have e3:((x:Int) != (y:Int))=true:=by simp;omega
 have e4:(x != y)=true:=by simp [hne]
 clear hne htl ha hM hI htr ht0 ht1
 rcases s with ⟨kind,addr,err,aad,used,phase,shard,sought,leaf,bit,word,full,at_,tries,item,stamp⟩
 rcases h with ⟨A0,n0,c0,A1,n1,c1,A2,n2,c2,A3,n3,c3⟩
 try dsimp only at *
 subst hat
 go_enter Tryz.func131,Tryz.ntmps131
 go_upto_region 1 with (fail)
 have L:=Loc.start w
 generalize hal:World.alloc _ _=w1
 replace L:=L.a3 hal
 clear hal
 replace L:=L.is0 (opv hd0 sc0) rfl
 generalize w.heap.size+1+1=gR at L ⊢
 generalize w.heap.size+1=gO at L ⊢
 generalize w.heap.size=gH at L ⊢
 refine rg L fun v2 hHeld=>?_
 replace L:=hHeld
 refine tg 0 10 (.slice B m d) rfl hHeld ?_
 refine tg 1 11 (.pointer (some ⟨gO,16,none⟩)) rfl hHeld ?_
 refine tC 2 12 1 16 rfl rfl rfl hHeld ?_
 refine tg 4 14 (.pointer (some ⟨gO,15,none⟩)) rfl hHeld ?_
 refine tC 5 15 1 15 rfl rfl rfl hHeld ?_
 refine tg 6 16 (.pointer (some ⟨gO,16,none⟩)) rfl hHeld ?_
 refine tC 7 17 1 16 rfl rfl rfl hHeld ?_
 refine rd 3 13 rfl fun K0 hK=>?_
 go_simp
 refine ((TL _ (hU.below L.K)).out).mono ?_
 rintro e w' ⟨rfl,rfl⟩
 refine hK.out _ _ L ?_
 clear hHeld hK K0
 intro hHeld
 try simp only [Act.put,sA,sZ,sS]
 refine rd 8 18 rfl fun K0 hK=>?_
 go_simp
 refine ((TS _ (hS.below L.K)).out).mono ?_
 rintro e w' ⟨rfl,rfl⟩
 refine hK.out _ _ L ?_
 clear hHeld hK K0
 intro hHeld
 try simp only [Act.put,sA,sZ,sS]
 refine tg 9 19 (.bool true) rfl hHeld ?_
 refine wpAnyH_done (by kernel_rfl) ?_ _
 clear hHeld
 go_wp2_with (first | (refine lC 4 (L.bk_ 2 rfl) ?_) | (refine lO 6 (L.bk_ 1 rfl) ?_))
 refine ((TK _).out).mono ?_
 rintro e w3 ⟨rfl,K'⟩
 replace L:=L.over K'
 go_wp2_with (refine sO 8 24 (L.bk_ 0 rfl) rfl rfl ?_)
 generalize hal:World.setRow _ _ _=w4
 replace L:=L.rr0 hal
 clear hal
 refine eCT Tryz.results131 (.bool true) (L.bk_ 0 rfl) ?_
 exact ⟨_,rfl,swLists (hL.below L.K),L.K⟩
theorem nagain_end {lz:Nat} {zs:List Int} (ha:a<4294967296) (hM:Much a p M) (hI:IS .u64 lo w h.A3 h.n3 h.c3 (sn.map Int.ofNat)) (hf:∀ x∈sn,x<U64) (hU:US w B m d ys) (hat:s.at_=(tt:Int)) (hlm:tt<m) (htl:tt<lv M) (hn3:tt<h.n3) (hL:Lists lo w h l) (hZ:IS .i64 lz w A n c zs) (hnz:n≤65536) (hr:risB M 0 zs=true) (hlo:lo≤w.heap.size) (hsl:h.n3=lv M) (hne:gt ys tt=gt sn tt) (hlt:¬ tt+1<lv M) :
  Calls Tryz.prog 131 #[.agg #[.int .u32 (a:Int),.int .i64 p,.slice A n c,.int .i64 sh,.int .i64 wo,.int .i64 qu,.int .i64 tr],.slice B m d,.agg (opv h s),.func (.func 146) #[] #[]] w (RetSw lo (swDn s) (⟨l.rqs,ads a (os (uf zs sn) M),l.ers,[]⟩) true w):=by
 have hS:=hI.seen hf
 have TL:=fun w (U:US w B m d ys)=>Lib.hid (load_nat U tt hlm)
 have TS:=fun w (U:US w h.A3 h.n3 h.c3 sn)=>Lib.hid (load_nat U tt hn3)
 have TV:=fun w=>Lib.hid (swlv_any (w:=w) (sh:=sh) (wo:=wo) (qu:=qu) (tr:=tr) (A:=A) (n:=n) (c:=c) ha hM)
 have e1:IntKind.i64.wrap ((tt:Int)+1)=(tt:Int)+1:=IntWalk.i64_in _ (by have:=lv_le hM.most;omega)
 have hlo3:=hsl
 have TK:=fun w (I:IS .i64 lz w A n c zs) (S:US w h.A3 h.n3 h.c3 sn) (s:Sc)=>Lib.hid (used_yes (w:=w) (a:=a) (p:=p) (sh:=sh) (wo:=wo) (qu:=qu) (tr:=tr) (h:=h) (s:=s) ha hM I hnz hr S hlo3)
 clear hlo3
 generalize ads a (os (uf zs sn) M)=xo at TK ⊢
 generalize lv M=Lv at TV hlt htl
 have e2:decide ((Lv:Int)≤(tt:Int)+1)=true:=by simp;omega
 simp only [hne] at TL
 generalize hy:gt sn tt=y at TL TS hne
 clear hne hy htl ha hM hI hlt hsl
 rcases s with ⟨kind,addr,err,aad,used,phase,shard,sought,leaf,bit,word,full,at_,tries,item,stamp⟩
 rcases h with ⟨A0,n0,c0,A1,n1,c1,A2,n2,c2,A3,n3,c3⟩
 try dsimp only at *
 subst hat
 go_enter Tryz.func131,Tryz.ntmps131
 go_upto_region 1 with (fail)
 have L:=Loc.start w
 generalize hal:World.alloc _ _=w1
 replace L:=L.a3 hal
 clear hal
 replace L:=L.is0 (opv hd0 sc0) rfl
 generalize w.heap.size+1+1=gR at L ⊢
 generalize w.heap.size+1=gO at L ⊢
 generalize w.heap.size=gH at L ⊢
 refine rg L fun v2 hHeld=>?_
 replace L:=hHeld
 refine tg 0 10 (.slice B m d) rfl hHeld ?_
 refine tg 1 11 (.pointer (some ⟨gO,16,none⟩)) rfl hHeld ?_
 refine tC 2 12 1 16 rfl rfl rfl hHeld ?_
 refine tg 4 14 (.pointer (some ⟨gO,15,none⟩)) rfl hHeld ?_
 refine tC 5 15 1 15 rfl rfl rfl hHeld ?_
 refine tg 6 16 (.pointer (some ⟨gO,16,none⟩)) rfl hHeld ?_
 refine tC 7 17 1 16 rfl rfl rfl hHeld ?_
 refine rd 3 13 rfl fun K0 hK=>?_
 go_simp
 refine ((TL _ (hU.below L.K)).out).mono ?_
 rintro e w' ⟨rfl,rfl⟩
 refine hK.out _ _ L ?_
 clear hHeld hK K0
 intro hHeld
 try simp only [Act.put,sA,sZ,sS]
 refine rd 8 18 rfl fun K0 hK=>?_
 go_simp
 refine ((TS _ (hS.below L.K)).out).mono ?_
 rintro e w' ⟨rfl,rfl⟩
 refine hK.out _ _ L ?_
 clear hHeld hK K0
 intro hHeld
 try simp only [Act.put,sA,sZ,sS]
 refine tg 9 19 (.bool false) rfl hHeld ?_
 refine wpAnyH_done (by kernel_rfl) ?_ _
 clear hHeld
 have O_16:=L.at_ 1 16 rfl (v:=.int .i64 (tt:Int)) rfl
 have O_z:=L.lt 1 rfl
 have O_f16:=L.fz 1 16 rfl
 go_upto_region 4 with fail
 clear O_16 O_z O_f16
 generalize hal:World.setCell _ _ _=w3
 replace L:=L.sc1 hal (l9:=(opv ⟨A0,n0,c0,A1,n1,c1,A2,n2,c2,A3,n3,c3⟩ ⟨kind,addr,err,aad,used,phase,shard,sought,leaf,bit,word,full,((tt:Int)+1),tries,item,stamp⟩)) rfl
 clear hal
 refine rg L fun v4 hHeld=>?_
 replace L:=hHeld
 refine tg 0 30 (.pointer (some ⟨gO,16,none⟩)) rfl hHeld ?_
 refine tC 1 31 1 16 rfl rfl rfl hHeld ?_
 refine tR 2 32 4 2 rfl rfl Tryz.underlying27 cf_sz hHeld ?_
 refine rd 3 33 rfl fun K0 hK=>?_
 go_simp
 refine ((TV _).out).mono ?_
 rintro e w5 ⟨rfl,K'⟩
 replace L:=L.over K'
 refine hK.out _ _ L ?_
 clear hHeld hK K0
 intro hHeld
 clear K'
 try simp only [Act.put,sA,sZ,sS]
 refine tg 4 34 (.bool true) rfl hHeld ?_
 refine wpAnyH_done (by kernel_rfl) ?_ _
 clear hHeld
 go_wp2_with (first | (refine lC 4 (L.bk_ 2 rfl) ?_) | (refine lO 6 (L.bk_ 1 rfl) ?_))
 have KS:=L.K.size
 refine ((TK _ (hZ.below L.K) (hS.below L.K) _).out).mono ?_
 rintro e w6 ⟨A1x,n1x,c1x,rfl,IX,K'⟩
 have Lb:=L.lts
 replace L:=L.over K'
 replace L:=L.is_new Lb IX
 clear Lb
 try dsimp only [lF,List.cons_append,List.nil_append] at L
 clear IX
 go_wp2_with (refine sO 8 39 (L.bk_ 0 rfl) rfl rfl ?_)
 generalize hal:World.setRow _ _ _=w7
 replace L:=L.rr0 hal
 clear hal
 have L2:=hL.below L.K
 go_wp2
 refine eCT Tryz.results131 (.bool true) (L.bk_ 0 rfl) ?_
 exact ⟨_,rfl,⟨L2.i0,(L.is_ 0 rfl).lower (Nat.le_trans hlo KS),L2.i2,IS.none_ _ _ _⟩,L.K⟩
end
end Go.Proofs.YtfhefofkhmkcnaaGreatDoor

/-
 What sweep.Step answers of a Grant,or a Snapshot,that sweeps. Conditions: a block that may be,a leaf that there is,as many seen as the Phase has.
-/
namespace Go.Proofs.YtfhefofkhmkcnaaGreatDoor
set_option maxRecDepth 100000
set_option maxRecDepth 100000
set_option maxRecDepth 100000
open Go.RowKit
set_option maxHeartbeats 8000000
set_option linter.unusedVariables false
section
variable {w w1:World} {lo f lz gPR gPO gPH a M m d tt:Nat} {p sh wo qu tr ph:Int} {A B:Option Addr} {n c:Nat} {zs:List Int} {sn ys:List Nat} {h:Hd} {s:Sc} {l:Ls}
theorem swstep_found (ha:a<4294967296) (hM:Much a p M) (hL:Lists lo w h l) (h0:h.n0≤65536) (h1:h.n1≤65536) (h2:h.n2≤65536) (h3:h.n3≤65000) (hU:US w B m d ys) (hat:s.at_=(tt:Int)) (hlm:tt<m) (htl:tt<lv M) (hk:s.kind=1) (hph:s.phase=6) (hb:fb (gt ys tt) 32=true) :
  Calls Tryz.prog 120 #[.agg #[.int .u32 (a:Int),.int .i64 p,.slice A n c,.int .i64 sh,.int .i64 wo,.int .i64 qu,.int .i64 tr],.slice B m d,.agg (opv h s)] w (RetSw w.heap.size (swFc s (gt ys tt) (fi (gt ys tt) 32)) (swNo l) false w):=by
 have TOwn:=fun w (L:Lists lo w h l)=>Lib.hid (own_any (s:=s) L h0 h1 h2 (by omega))
 have TK:=fun w A0 c0 A1 c1 A2 c2 A3 c3 (U:US w B m d ys)=>Lib.hid (sfirst_found (w:=w) (a:=a) (p:=p) (sh:=sh) (wo:=wo) (qu:=qu) (tr:=tr) (A:=A) (n:=n) (c:=c) (h:=⟨A0,h.n0,c0,A1,h.n1,c1,A2,h.n2,c2,A3,h.n3,c3⟩) (s:=s) U hat hlm hk hb)
 clear hlm htl hb ha hM
 rcases s with ⟨kind,addr,err,aad,used,phase,shard,sought,leaf,bit,word,full,at_,tries,item,stamp⟩
 rcases h with ⟨A0,n0,c0,A1,n1,c1,A2,n2,c2,A3,n3,c3⟩
 try dsimp only at *
 subst hk hph hat
 go_enter Tryz.func120,Tryz.ntmps120
 go_upto_region 1 with (fail)
 have L:=Loc.start w
 generalize hal:World.alloc _ _=w1
 replace L:=L.a3 hal
 clear hal
 replace L:=L.is0 (opv hd0 sc0) rfl
 generalize w.heap.size+1+1=gR at L ⊢
 generalize w.heap.size+1=gO at L ⊢
 generalize w.heap.size=gH at L ⊢
 go_wp2_with (refine lO 5 (L.bk_ 1 rfl) ?_)
 have KS:=L.K.size
 have LbO:=L.gs
 refine ((TOwn _ (hL.below L.K)).out).mono ?_
 rintro e w2 ⟨A0',c0',A1',c1',A2',c2',A3',c3',rfl,L',K'⟩
 have Lb:=L.lts
 replace L:=L.over K'
 replace L:=L.lists Lb L'
 replace L:=L.sz K'.size
 clear Lb
 try dsimp only [lF,List.cons_append,List.nil_append] at L
 clear L'
 go_upto_region 2 with (refine sO 5 11 (L.bk_ 1 rfl) rfl rfl ?_)
 generalize hal:World.setRow _ _ _=w3
 replace L:=L.rr1 hal
 clear hal
 refine rg L fun v4 hHeld=>?_
 replace L:=hHeld
 refine tg 1 14 (.pointer (some ⟨gO,0,none⟩)) rfl hHeld ?_
 refine tg 2 15 (.pointer (some ⟨gO,0,none⟩)) rfl hHeld ?_
 refine tC 3 16 1 0 rfl rfl rfl hHeld ?_
 refine rd 0 13 rfl fun K0 hK=>?_
 go_simp
 refine (sen_any _).mono ?_
 rintro e w5 ⟨gm,rfl,hF,hgm,K'⟩
 have Lb:=L.lts
 replace L:=L.over K'
 replace L:=L.map_new Lb hgm hF
 clear Lb
 try dsimp only [lF,List.cons_append,List.nil_append] at L
 clear hF hgm
 refine hK.out _ _ (L.less 1) ?_
 clear hHeld hK K0
 intro hHeld
 clear K'
 try simp only [Act.put,sA,sZ,sS]
 refine rd 4 17 rfl fun K0 hK=>?_
 have hrun:=FMap.look (L.get 0 rfl:FMap _ gm sen_l) Tryz.underlying161 (sen_z _) (k:=1) (by decide) (f:=145) rfl
 go_simp
 refine hK.out _ _ hHeld ?_
 clear hHeld hK K0
 intro hHeld
 try simp only [Act.put,sA,sZ,sS]
 clear hrun
 refine tz 5 12 rfl hHeld ?_
 refine tg 6 18 (.func (.func 145) #[] #[]) rfl hHeld ?_
 refine tg 7 19 (.bool true) rfl hHeld ?_
 refine tg 8 8 (.func (.func 145) #[] #[]) rfl hHeld ?_
 refine tg 9 9 (.bool true) rfl hHeld ?_
 refine wpAnyH_done (by kernel_rfl) ?_ _
 clear hHeld
 have O_8:=L.at_ 1 8 rfl (v:=.int .i64 6) rfl
 have O_z:=L.lt 1 rfl
 go_wp2_with (first | (refine lC 3 (L.bk_ 2 rfl) ?_) | (refine lO 5 (L.bk_ 1 rfl) ?_))
 refine ((TK _ _ _ _ _ _ _ _ _ (hU.below L.K)).out).mono ?_
 rintro e w6 ⟨rfl,K'⟩
 clear O_8 O_z
 replace L:=L.over K'
 go_wp2_with (refine sO 6 30 (L.bk_ 0 rfl) rfl rfl ?_)
 generalize hal:World.setRow _ _ _=w7
 replace L:=L.rr0 hal
 clear hal
 refine eCT Tryz.results120 (.bool false) (L.bk_ 0 rfl) ?_
 exact ⟨_,rfl,swLists ((L.lists_at 2 rfl).lower_ KS),L.K⟩
theorem sw_6 {s2:Sc} {l2:Ls} (hL:Lists lo w h l) (h0:h.n0≤65536) (h1:h.n1≤65536) (h2:h.n2≤65536) (h3:h.n3≤65000) (hU:US w B m d ys) (hwf:(Lit.int .i64 s.kind).wf=true) (hget:fget sen_l s.kind=some f) (hph:s.phase=6)
  (TK:∀ w1 gPR gPO gPH lo A0 c0 A1 c1 A2 c2 A3 c3 (L:Loc w w1 [(gPR,43,opv hd0 sc0),(gPO,43,opv ⟨A0,h.n0,c0,A1,h.n1,c1,A2,h.n2,c2,A3,h.n3,c3⟩ s),(gPH,27,#[.int .u32 (a:Int),.int .i64 p,.slice A n c,.int .i64 sh,.int .i64 wo,.int .i64 qu,.int .i64 tr])] [rF .u64 41 lo A3 h.n3 c3 l.ses,iF .u32 lo A0 h.n0 c0 l.rqs,iF .u32 lo A1 h.n1 c1 l.ads,iF .i64 lo A2 h.n2 c2 l.ers,zF lo]) (hs0:SepF (.slice A3 h.n3 c3) (iF .u32 lo A0 h.n0 c0 l.rqs)) (hs1:SepF (.slice A3 h.n3 c3) (iF .u32 lo A1 h.n1 c1 l.ads)) (hs2:SepF (.slice A3 h.n3 c3) (iF .i64 lo A2 h.n2 c2 l.ers)) (hlo:w.heap.size≤lo),Hid (Calls Tryz.prog 130 #[.agg #[.int .u32 (a:Int),.int .i64 p,.slice A n c,.int .i64 sh,.int .i64 wo,.int .i64 qu,.int .i64 tr],.slice B m d,.agg (opv ⟨A0,h.n0,c0,A1,h.n1,c1,A2,h.n2,c2,A3,h.n3,c3⟩ s)] w1 (RetSwL lo s2 l2 gPR gPO gPH (opv ⟨A0,h.n0,c0,A1,h.n1,c1,A2,h.n2,c2,A3,h.n3,c3⟩ s) #[.int .u32 (a:Int),.int .i64 p,.slice A n c,.int .i64 sh,.int .i64 wo,.int .i64 qu,.int .i64 tr] w w1))) :
  Calls Tryz.prog 120 #[.agg #[.int .u32 (a:Int),.int .i64 p,.slice A n c,.int .i64 sh,.int .i64 wo,.int .i64 qu,.int .i64 tr],.slice B m d,.agg (opv h s)] w (RetSw w.heap.size (s2) (l2) false w):=by
 have TOwn:=fun w (L:Lists lo w h l)=>Lib.hid (own_seen (s:=s) L h0 h1 h2 (by omega))
 rcases s with ⟨kind,addr,err,aad,used,phase,shard,sought,leaf,bit,word,full,at_,tries,item,stamp⟩
 rcases h with ⟨A0,n0,c0,A1,n1,c1,A2,n2,c2,A3,n3,c3⟩
 try dsimp only at *
 subst hph
 go_enter Tryz.func120,Tryz.ntmps120
 go_upto_region 1 with (fail)
 have L:=Loc.start w
 generalize hal:World.alloc _ _=w1
 replace L:=L.a3 hal
 clear hal
 replace L:=L.is0 (opv hd0 sc0) rfl
 generalize w.heap.size+1+1=gR at L ⊢
 generalize w.heap.size+1=gO at L ⊢
 generalize w.heap.size=gH at L ⊢
 go_wp2_with (refine lO 5 (L.bk_ 1 rfl) ?_)
 have KS:=L.K.size
 have LbO:=L.gs
 refine ((TOwn _ (hL.below L.K)).out).mono ?_
 rintro e w2 ⟨A0',c0',A1',c1',A2',c2',A3',c3',rfl,I0,I1,I2,R3,hs0,hs1,hs2,K'⟩
 have Lb:=L.lts
 replace L:=L.over K'
 replace L:=L.sz K'.size
 replace L:=L.is_new Lb I2
 replace L:=L.is_new Lb I1
 replace L:=L.is_new Lb I0
 replace L:=L.ri_new Lb R3
 clear Lb
 try dsimp only [lF,List.cons_append,List.nil_append] at L
 clear I0 I1 I2 R3
 go_upto_region 2 with (refine sO 5 11 (L.bk_ 1 rfl) rfl rfl ?_)
 generalize hal:World.setRow _ _ _=w3
 replace L:=L.rr1 hal
 clear hal
 refine rg L fun v4 hHeld=>?_
 replace L:=hHeld
 refine tg 1 14 (.pointer (some ⟨gO,0,none⟩)) rfl hHeld ?_
 refine tg 2 15 (.pointer (some ⟨gO,0,none⟩)) rfl hHeld ?_
 refine tC 3 16 1 0 rfl rfl rfl hHeld ?_
 refine rd 0 13 rfl fun K0 hK=>?_
 go_simp
 refine (sen_any _).mono ?_
 rintro e w5 ⟨gm,rfl,hF,hgm,K'⟩
 have Lb:=L.lts
 replace L:=L.over K'
 replace L:=L.map_new Lb hgm hF
 clear Lb
 try dsimp only [lF,List.cons_append,List.nil_append] at L
 clear hF hgm
 refine hK.out _ _ (L.less 1) ?_
 clear hHeld hK K0
 intro hHeld
 clear K'
 try simp only [Act.put,sA,sZ,sS]
 refine rd 4 17 rfl fun K0 hK=>?_
 have hrun:=FMap.look (L.get 0 rfl:FMap _ gm sen_l) Tryz.underlying161 (sen_z _) (k:=kind) hwf (f:=f) hget
 go_simp
 refine hK.out _ _ hHeld ?_
 clear hHeld hK K0
 intro hHeld
 try simp only [Act.put,sA,sZ,sS]
 clear hrun
 refine tz 5 12 rfl hHeld ?_
 refine tg 6 18 (.func (.func f) #[] #[]) rfl hHeld ?_
 refine tg 7 19 (.bool true) rfl hHeld ?_
 refine tg 8 8 (.func (.func f) #[] #[]) rfl hHeld ?_
 refine tg 9 9 (.bool true) rfl hHeld ?_
 refine wpAnyH_done (by kernel_rfl) ?_ _
 clear hHeld
 have O_8:=L.at_ 1 8 rfl (v:=.int .i64 6) rfl
 have O_z:=L.lt 1 rfl
 go_wp2_with (first | (refine lC 3 (L.bk_ 2 rfl) ?_) | (refine lO 5 (L.bk_ 1 rfl) ?_))
 refine ((TK _ _ _ _ _ _ _ _ _ _ _ _ _ (L.less 1) hs0 hs1 hs2 KS).out).mono ?_
 rintro e w6 ⟨h3,rfl,L',LN⟩
 clear O_8 O_z
 replace L:=LN.lists' LbO L'
 try dsimp only [lF,List.cons_append,List.nil_append] at L
 clear LN L'
 go_wp2_with (refine sO 6 30 (L.bk_ 0 rfl) rfl rfl ?_)
 generalize hal:World.setRow _ _ _=w7
 replace L:=L.rr0 hal
 clear hal
 refine eCT Tryz.results120 (.bool false) (L.bk_ 0 rfl) ?_
 exact ⟨_,rfl,(L.lists_at 0 rfl).lower_ KS,L.K⟩
theorem sw_7 {Z:World→Prop} {s2:Sc} {l2:Ls} {b2:Bool} (hL:Lists lo w h l) (h0:h.n0≤65536) (h1:h.n1≤65536) (h2:h.n2≤65536) (h3:h.n3≤65000) (hU:US w B m d ys) (hZ:∀ w',Below w.heap.size w w'→Z w') (hwf:(Lit.int .i64 s.kind).wf=true) (hget:fget sen_l s.kind=some f) (hph:s.phase=7)
  (TK:∀ w lo A0 c0 A1 c1 A2 c2 A3 c3,lo≤w.heap.size→Lists lo w ⟨A0,h.n0,c0,A1,h.n1,c1,A2,h.n2,c2,A3,h.n3,c3⟩ l→US w B m d ys→Z w→Hid (Calls Tryz.prog 131 #[.agg #[.int .u32 (a:Int),.int .i64 p,.slice A n c,.int .i64 sh,.int .i64 wo,.int .i64 qu,.int .i64 tr],.slice B m d,.agg (opv ⟨A0,h.n0,c0,A1,h.n1,c1,A2,h.n2,c2,A3,h.n3,c3⟩ s),.func (.func f) #[] #[]] w (RetSw lo s2 l2 b2 w))) :
  Calls Tryz.prog 120 #[.agg #[.int .u32 (a:Int),.int .i64 p,.slice A n c,.int .i64 sh,.int .i64 wo,.int .i64 qu,.int .i64 tr],.slice B m d,.agg (opv h s)] w (RetSw w.heap.size (s2) (l2) b2 w):=by
 have TOwn:=fun w (L:Lists lo w h l)=>Lib.hid (own_any (s:=s) L h0 h1 h2 (by omega))
 rcases s with ⟨kind,addr,err,aad,used,phase,shard,sought,leaf,bit,word,full,at_,tries,item,stamp⟩
 rcases h with ⟨A0,n0,c0,A1,n1,c1,A2,n2,c2,A3,n3,c3⟩
 try dsimp only at *
 subst hph
 go_enter Tryz.func120,Tryz.ntmps120
 go_upto_region 1 with (fail)
 have L:=Loc.start w
 generalize hal:World.alloc _ _=w1
 replace L:=L.a3 hal
 clear hal
 replace L:=L.is0 (opv hd0 sc0) rfl
 generalize w.heap.size+1+1=gR at L ⊢
 generalize w.heap.size+1=gO at L ⊢
 generalize w.heap.size=gH at L ⊢
 go_wp2_with (refine lO 5 (L.bk_ 1 rfl) ?_)
 have KS:=L.K.size
 have LbO:=L.gs
 refine ((TOwn _ (hL.below L.K)).out).mono ?_
 rintro e w2 ⟨A0',c0',A1',c1',A2',c2',A3',c3',rfl,L',K'⟩
 have Lb:=L.lts
 replace L:=L.over K'
 replace L:=L.lists Lb L'
 replace L:=L.sz K'.size
 clear Lb
 try dsimp only [lF,List.cons_append,List.nil_append] at L
 clear L'
 go_upto_region 2 with (refine sO 5 11 (L.bk_ 1 rfl) rfl rfl ?_)
 generalize hal:World.setRow _ _ _=w3
 replace L:=L.rr1 hal
 clear hal
 refine rg L fun v4 hHeld=>?_
 replace L:=hHeld
 refine tg 1 14 (.pointer (some ⟨gO,0,none⟩)) rfl hHeld ?_
 refine tg 2 15 (.pointer (some ⟨gO,0,none⟩)) rfl hHeld ?_
 refine tC 3 16 1 0 rfl rfl rfl hHeld ?_
 refine rd 0 13 rfl fun K0 hK=>?_
 go_simp
 refine (sen_any _).mono ?_
 rintro e w5 ⟨gm,rfl,hF,hgm,K'⟩
 have Lb:=L.lts
 replace L:=L.over K'
 replace L:=L.map_new Lb hgm hF
 clear Lb
 try dsimp only [lF,List.cons_append,List.nil_append] at L
 clear hF hgm
 refine hK.out _ _ (L.less 1) ?_
 clear hHeld hK K0
 intro hHeld
 clear K'
 try simp only [Act.put,sA,sZ,sS]
 refine rd 4 17 rfl fun K0 hK=>?_
 have hrun:=FMap.look (L.get 0 rfl:FMap _ gm sen_l) Tryz.underlying161 (sen_z _) (k:=kind) hwf (f:=f) hget
 go_simp
 refine hK.out _ _ hHeld ?_
 clear hHeld hK K0
 intro hHeld
 try simp only [Act.put,sA,sZ,sS]
 clear hrun
 refine tz 5 12 rfl hHeld ?_
 refine tg 6 18 (.func (.func f) #[] #[]) rfl hHeld ?_
 refine tg 7 19 (.bool true) rfl hHeld ?_
 refine tg 8 8 (.func (.func f) #[] #[]) rfl hHeld ?_
 refine tg 9 9 (.bool true) rfl hHeld ?_
 refine wpAnyH_done (by kernel_rfl) ?_ _
 clear hHeld
 have O_8:=L.at_ 1 8 rfl (v:=.int .i64 7) rfl
 have O_z:=L.lt 1 rfl
 go_wp2_with (first | (refine lC 3 (L.bk_ 2 rfl) ?_) | (refine lO 5 (L.bk_ 1 rfl) ?_))
 refine ((TK _ _ _ _ _ _ _ _ _ _ (L.sz_ 1 rfl) (L.lists_at 2 rfl) (hU.below L.K) (hZ _ L.K)).out).mono ?_
 rintro e w6 ⟨h3,rfl,L',K'⟩
 clear O_8 O_z
 have Lb:=L.gs
 replace L:=(L.over K').lists' LbO L'
 try dsimp only [lF,List.cons_append,List.nil_append] at L
 clear L' Lb K'
 go_wp2_with (refine sO 6 38 (L.bk_ 0 rfl) rfl rfl ?_)
 generalize hal:World.setRow _ _ _=w7
 replace L:=L.rr0 hal
 clear hal
 refine eCT Tryz.results120 (.bool b2) (L.bk_ 0 rfl) ?_
 exact ⟨_,rfl,(L.lists_at 0 rfl).lower_ KS,L.K⟩
theorem swstep_first (ha:a<4294967296) (hM:Much a p M) (hL:Lists lo w h l) (h0:h.n0≤65536) (h1:h.n1≤65536) (h2:h.n2≤65536) (h3:h.n3≤65000) (hU:US w B m d ys) (hat:s.at_=(tt:Int)) (hlm:tt<m) (htl:tt<lv M) (hk:s.kind=1) (hph:s.phase=6) :
  Calls Tryz.prog 120 #[.agg #[.int .u32 (a:Int),.int .i64 p,.slice A n c,.int .i64 sh,.int .i64 wo,.int .i64 qu,.int .i64 tr],.slice B m d,.agg (opv h s)] w (RetSw w.heap.size (swF (lv M) (gt ys tt) s) (swFL (gt ys tt) l) false w):=by
 unfold swF swFL
 cases hb:fb (gt ys tt) 32 with
 | true=>rw [if_pos rfl,if_pos rfl];exact swstep_found ha hM hL h0 h1 h2 h3 hU hat hlm htl hk hph hb
 | false =>
  rw [if_neg Bool.false_ne_true,if_neg Bool.false_ne_true]
  have hw:(Lit.int .i64 s.kind).wf=true:=by rw [hk];decide
  have hg:fget sen_l s.kind=some 145:=by rw [hk];rfl
  by_cases hlt:tt+1<lv M
  ·rw [if_pos (by omega)];exact sw_6 hL h0 h1 h2 h3 hU hw hg hph (fun w1 gPR gPO gPH lo A0 c0 A1 c1 A2 c2 A3 c3 L hs0 hs1 hs2 hlo=>Lib.hid (sfirst_mv (h:=⟨A0,h.n0,c0,A1,h.n1,c1,A2,h.n2,c2,A3,h.n3,c3⟩) (s:=s) ha hM L hs0 hs1 hs2 hlo hU hat hlm h3 htl (.inl hb) hlt))
  ·rw [if_neg (by omega)];exact sw_6 hL h0 h1 h2 h3 hU hw hg hph (fun w1 gPR gPO gPH lo A0 c0 A1 c1 A2 c2 A3 c3 L hs0 hs1 hs2 hlo=>Lib.hid (sfirst_ag (h:=⟨A0,h.n0,c0,A1,h.n1,c1,A2,h.n2,c2,A3,h.n3,c3⟩) (s:=s) ha hM L hs0 hs1 hs2 hlo hU hat hlm h3 htl (.inl hb) hlt))
theorem nstep_first (ha:a<4294967296) (hM:Much a p M) (hL:Lists lo w h l) (h0:h.n0≤65536) (h1:h.n1≤65536) (h2:h.n2≤65536) (h3:h.n3≤65000) (hU:US w B m d ys) (hat:s.at_=(tt:Int)) (hlm:tt<m) (htl:tt<lv M) (hk:s.kind=6) (hph:s.phase=6) :
  Calls Tryz.prog 120 #[.agg #[.int .u32 (a:Int),.int .i64 p,.slice A n c,.int .i64 sh,.int .i64 wo,.int .i64 qu,.int .i64 tr],.slice B m d,.agg (opv h s)] w (RetSw w.heap.size (if s.at_+1<(lv M:Int) then swMv s else swAg s) (⟨l.rqs,l.ads,l.ers,l.ses ++ [((gt ys tt:Nat):Int)]⟩) false w):=by
 have hw:(Lit.int .i64 s.kind).wf=true:=by rw [hk];decide
 have hg:fget sen_l s.kind=some 146:=by rw [hk];rfl
 by_cases hlt:tt+1<lv M
 ·rw [if_pos (by omega)];exact sw_6 hL h0 h1 h2 h3 hU hw hg hph (fun w1 gPR gPO gPH lo A0 c0 A1 c1 A2 c2 A3 c3 L hs0 hs1 hs2 hlo=>Lib.hid (sfirst_mv (h:=⟨A0,h.n0,c0,A1,h.n1,c1,A2,h.n2,c2,A3,h.n3,c3⟩) (s:=s) ha hM L hs0 hs1 hs2 hlo hU hat hlm h3 htl (.inr (by omega)) hlt))
 ·rw [if_neg (by omega)];exact sw_6 hL h0 h1 h2 h3 hU hw hg hph (fun w1 gPR gPO gPH lo A0 c0 A1 c1 A2 c2 A3 c3 L hs0 hs1 hs2 hlo=>Lib.hid (sfirst_ag (h:=⟨A0,h.n0,c0,A1,h.n1,c1,A2,h.n2,c2,A3,h.n3,c3⟩) (s:=s) ha hM L hs0 hs1 hs2 hlo hU hat hlm h3 htl (.inr (by omega)) hlt))
theorem swstep_again (ha:a<4294967296) (hM:Much a p M) (hL:Lists lo w h l) (h0:h.n0≤65536) (h1:h.n1≤65536) (h2:h.n2≤65536) (h3:h.n3≤65000) (hU:US w B m d ys) (hat:s.at_=(tt:Int)) (hlm:tt<m) (htl:tt<lv M) (hk:s.kind=1) (hse:l.ses=sn.map Int.ofNat) (hf:∀ x∈sn,x<U64) (hn3:tt<h.n3) (hph:s.phase=7) :
  Calls Tryz.prog 120 #[.agg #[.int .u32 (a:Int),.int .i64 p,.slice A n c,.int .i64 sh,.int .i64 wo,.int .i64 qu,.int .i64 tr],.slice B m d,.agg (opv h s)] w (RetSw w.heap.size (swA (lv M) (gt ys tt) (gt sn tt) s) (swAL (lv M) (gt ys tt) (gt sn tt) s l) (swAB (lv M) (gt ys tt) (gt sn tt) s) w):=by
 have hw:(Lit.int .i64 s.kind).wf=true:=by rw [hk];decide
 have hg:fget sen_l s.kind=some 145:=by rw [hk];rfl
 unfold swA swAL swAB
 by_cases hne:gt ys tt=gt sn tt
 ·rw [if_pos hne,if_pos hne,decide_eq_true hne]
  by_cases hlt:tt+1<lv M
  ·rw [if_pos (by omega),if_pos (by omega),decide_eq_false (by omega)];exact sw_7 (Z:=fun _=>True) hL h0 h1 h2 h3 hU (fun _ _=>trivial) hw hg hph (fun w lo A0 c0 A1 c1 A2 c2 A3 c3 hlo L U Z=>Lib.hid (sagain_mv (w:=w) (lo:=lo) (p:=p) (sh:=sh) (wo:=wo) (qu:=qu) (tr:=tr) (A:=A) (n:=n) (c:=c) (h:=⟨A0,h.n0,c0,A1,h.n1,c1,A2,h.n2,c2,A3,h.n3,c3⟩) (s:=s) ha hM (by have:=L.i3;rw [hse] at this;exact this) hf U hat hlm htl hn3 L hne hlt))
  ·rw [if_neg (by omega),if_neg (by omega),decide_eq_true (by omega)];exact sw_7 (Z:=fun _=>True) hL h0 h1 h2 h3 hU (fun _ _=>trivial) hw hg hph (fun w lo A0 c0 A1 c1 A2 c2 A3 c3 hlo L U Z=>Lib.hid (sagain_end (w:=w) (lo:=lo) (p:=p) (sh:=sh) (wo:=wo) (qu:=qu) (tr:=tr) (A:=A) (n:=n) (c:=c) (h:=⟨A0,h.n0,c0,A1,h.n1,c1,A2,h.n2,c2,A3,h.n3,c3⟩) (s:=s) ha hM (by have:=L.i3;rw [hse] at this;exact this) hf U hat hlm htl hn3 L hne hlt))
 ·rw [if_neg hne,if_neg hne,decide_eq_false hne]
  exact sw_7 (Z:=fun _=>True) hL h0 h1 h2 h3 hU (fun _ _=>trivial) hw hg hph (fun w lo A0 c0 A1 c1 A2 c2 A3 c3 hlo L U Z=>Lib.hid (sagain_not (w:=w) (lo:=lo) (p:=p) (sh:=sh) (wo:=wo) (qu:=qu) (tr:=tr) (A:=A) (n:=n) (c:=c) (h:=⟨A0,h.n0,c0,A1,h.n1,c1,A2,h.n2,c2,A3,h.n3,c3⟩) (s:=s) ha hM (by have:=L.i3;rw [hse] at this;exact this) hf U hat hlm htl hn3 L hne))
theorem nstep_again (ha:a<4294967296) (hM:Much a p M) (hL:Lists lo w h l) (h0:h.n0≤65536) (h1:h.n1≤65536) (h2:h.n2≤65536) (h3:h.n3≤65000) (hU:US w B m d ys) (hat:s.at_=(tt:Int)) (hlm:tt<m) (htl:tt<lv M) (hk:s.kind=6) (hZ:IS .i64 lz w A n c zs) (hnz:n≤65536) (hr:risB M 0 zs=true) (hsl:h.n3=lv M) (ht0:0≤s.tries) (ht1:s.tries≤65536) (hse:l.ses=sn.map Int.ofNat) (hf:∀ x∈sn,x<U64) (hn3:tt<h.n3) (hph:s.phase=7) :
  Calls Tryz.prog 120 #[.agg #[.int .u32 (a:Int),.int .i64 p,.slice A n c,.int .i64 sh,.int .i64 wo,.int .i64 qu,.int .i64 tr],.slice B m d,.agg (opv h s)] w (RetSw w.heap.size (nsA tr (lv M) (gt ys tt) (gt sn tt) s) (nsAL a M zs sn (gt ys tt) (gt sn tt) s l) (nsAB tr (lv M) (gt ys tt) (gt sn tt) s) w):=by
 have hw:(Lit.int .i64 s.kind).wf=true:=by rw [hk];decide
 have hg:fget sen_l s.kind=some 146:=by rw [hk];rfl
 unfold nsA nsAL nsAB
 by_cases hne:gt ys tt=gt sn tt
 ·rw [if_pos hne,if_pos hne,if_pos hne]
  by_cases hlt:tt+1<lv M
  ·rw [if_pos (by omega),if_pos (by omega),decide_eq_false (by omega)];exact sw_7 (Z:=fun w=>IS .i64 lz w A n c zs) hL h0 h1 h2 h3 hU (fun _ K=>hZ.below K) hw hg hph (fun w lo A0 c0 A1 c1 A2 c2 A3 c3 hlo L U Z=>Lib.hid (sagain_mv (w:=w) (lo:=lo) (p:=p) (sh:=sh) (wo:=wo) (qu:=qu) (tr:=tr) (A:=A) (n:=n) (c:=c) (h:=⟨A0,h.n0,c0,A1,h.n1,c1,A2,h.n2,c2,A3,h.n3,c3⟩) (s:=s) ha hM (by have:=L.i3;rw [hse] at this;exact this) hf U hat hlm htl hn3 L hne hlt))
  ·rw [if_neg (by omega),if_neg (by omega),decide_eq_true (by omega)];exact sw_7 (Z:=fun w=>IS .i64 lz w A n c zs) hL h0 h1 h2 h3 hU (fun _ K=>hZ.below K) hw hg hph (fun w lo A0 c0 A1 c1 A2 c2 A3 c3 hlo L U Z=>Lib.hid (nagain_end (w:=w) (lo:=lo) (p:=p) (sh:=sh) (wo:=wo) (qu:=qu) (tr:=tr) (A:=A) (n:=n) (c:=c) (h:=⟨A0,h.n0,c0,A1,h.n1,c1,A2,h.n2,c2,A3,h.n3,c3⟩) (s:=s) ha hM (by have:=L.i3;rw [hse] at this;exact this) hf U hat hlm htl hn3 L Z hnz hr hlo hsl hne hlt))
 ·rw [if_neg hne,if_neg hne,if_neg hne]
  by_cases htr:s.tries+1=tr
  ·rw [if_pos htr,decide_eq_true htr];exact sw_7 (Z:=fun w=>IS .i64 lz w A n c zs) hL h0 h1 h2 h3 hU (fun _ K=>hZ.below K) hw hg hph (fun w lo A0 c0 A1 c1 A2 c2 A3 c3 hlo L U Z=>Lib.hid (nagain_out (w:=w) (lo:=lo) (p:=p) (sh:=sh) (wo:=wo) (qu:=qu) (tr:=tr) (A:=A) (n:=n) (c:=c) (h:=⟨A0,h.n0,c0,A1,h.n1,c1,A2,h.n2,c2,A3,h.n3,c3⟩) (s:=s) ha hM (by have:=L.i3;rw [hse] at this;exact this) hf U hat hlm htl hn3 ht0 ht1 L hne htr))
  ·rw [if_neg htr,decide_eq_false htr];exact sw_7 (Z:=fun w=>IS .i64 lz w A n c zs) hL h0 h1 h2 h3 hU (fun _ K=>hZ.below K) hw hg hph (fun w lo A0 c0 A1 c1 A2 c2 A3 c3 hlo L U Z=>Lib.hid (nagain_not (w:=w) (lo:=lo) (p:=p) (sh:=sh) (wo:=wo) (qu:=qu) (tr:=tr) (A:=A) (n:=n) (c:=c) (h:=⟨A0,h.n0,c0,A1,h.n1,c1,A2,h.n2,c2,A3,h.n3,c3⟩) (s:=s) ha hM (by have:=L.i3;rw [hse] at this;exact this) hf U hat hlm htl hn3 ht0 ht1 L hne htr))
end
end Go.Proofs.YtfhefofkhmkcnaaGreatDoor

/-
 A seek,step by step: which leaves it has passed,where it is,how far it can go on. No program in it.
-/
namespace Go.Proofs.YtfhefofkhmkcnaaGreatDoor
set_option maxRecDepth 100000
set_option maxHeartbeats 8000000
set_option maxRecDepth 100000
set_option linter.unusedVariables false
theorem hit_iff {at_ x t:Nat}:hit at_ x t=true↔at_≤t∧x.testBit t=false:=by
 unfold hit
 simp
theorem nxt_cases (a b at_ x:Nat):(∃ t,nxt a b at_ x=some t∧a/64≤t∧t<a/64+cnt_ a b∧at_≤t∧x.testBit t=false∧∀ u,a/64≤u→u<t→at_≤u→x.testBit u=true) ∨
  (nxt a b at_ x=none∧∀ u,a/64≤u→u<a/64+cnt_ a b→at_≤u→x.testBit u=true):=by
 have aux:∀ m,m≤cnt_ a b→(∀ j,j<m→hit at_ x (a/64+j)=false)∨∃ k,k<m∧(∀ j,j<k→hit at_ x (a/64+j)=false)∧hit at_ x (a/64+k)=true:=fun m=>by
  induction m with
  | zero=>intro _;exact .inl fun j h=>absurd h (by omega)
  | succ m ih =>
   intro h
   rcases ih (by omega) with h1 | ⟨k,hk,h1,h2⟩
   ·cases hb:hit at_ x (a/64+m) with
    | true=>exact .inr ⟨m,by omega,h1,hb⟩
    | false =>
     refine .inl fun j hj=>?_
     by_cases e:j=m
     ·rw [e];exact hb
     ·exact h1 j (by omega)
   ·exact .inr ⟨k,by omega,h1,h2⟩
 have bit:∀ u,hit at_ x u=false→at_≤u→x.testBit u=true:=fun u h hu=>by
  cases hx:x.testBit u with
  | true=>rfl
  | false=>have:=hit_iff.2 ⟨hu,hx⟩;rw [h] at this;cases this
 rcases aux _ (Nat.le_refl _) with h | ⟨k,hk,h1,h2⟩
 ·refine .inr ⟨nxt_none h,fun u h1 h2 h3=>bit u ?_ h3⟩
  have:=h (u - a/64) (by omega)
  rwa [show a/64+(u - a/64)=u by omega] at this
 ·have hh:=hit_iff.1 h2
  refine .inl ⟨a/64+k,nxt_some hk h1 h2,by omega,by omega,hh.1,hh.2,fun u g1 g2 g3=>bit u ?_ g3⟩
  have:=h1 (u - a/64) (by omega)
  rwa [show a/64+(u - a/64)=u by omega] at this
theorem in_top {a b i:Nat} (h1:a≤i) (h2:i<b):a/64≤i/64∧i/64<a/64+cnt_ a b:=cnt_top.2 ⟨by omega,by omega,by omega⟩
theorem fre_cases (a b x t:Nat):(∃ i,fre a b x t=some i∧a≤i∧i<b∧i/64=t∧x.testBit (i%64)=false∧∀ j,a≤j→j<i→j/64=t→x.testBit (j%64)=true) ∨
  (fre a b x t=none∧∀ j,a≤j→j<b→j/64=t→x.testBit (j%64)=true):=by
 by_cases hin:a/64≤t∧t<a/64+cnt_ a b
 ·have hc:=cnt_top.1 hin
  have e1:bfr a t=max a (64*t) - 64*t:=rfl
  have e2:bto b t=min b (64*t+64) - 64*t:=rfl
  have out:∀ j,a≤j→j/64=t→¬ (j%64<bfr a t):=fun j h1 h2=>by omega
  cases hf:fb (fl_ x (bfr a t)) (bto b t) with
  | true =>
   have hy:=f_yes hf
   generalize hfi:fi (fl_ x (bfr a t)) (bto b t)=f at hy
   have hb:=hy.2.1
   rw [fl_bit,Bool.or_eq_false_iff,decide_eq_false_iff_not] at hb
   refine .inl ⟨64*t+f,?_,by omega,by omega,by omega,?_,fun j h1 h2 h3=>?_⟩
   ·unfold fre
    rw [inT_yes hin,if_pos rfl,hf,if_pos rfl,hfi]
   ·rw [show (64*t+f)%64=f by omega];exact hb.1
   ·have:=hy.2.2 (j%64) (by omega)
    rw [fl_bit,decide_eq_false (out j h1 h3),Bool.or_false] at this
    exact this
  | false =>
   have hn:=(f_no hf).2
   refine .inr ⟨?_,fun j h1 h2 h3=>?_⟩
   ·unfold fre
    rw [inT_yes hin,if_pos rfl,hf,if_neg Bool.false_ne_true]
   ·have:=hn (j%64) (by omega)
    rw [fl_bit,decide_eq_false (out j h1 h3),Bool.or_false] at this
    exact this
 ·refine .inr ⟨?_,fun j h1 h2 h3=>?_⟩
  ·unfold fre
   rw [inT_no hin,if_neg Bool.false_ne_true]
  ·have:=in_top h1 h2
   rw [h3] at this
   exact absurd this hin
/-- Is the leaf hinted to be full? -/
def hf (M:Nat) (ys:List Nat) (i:Nat):Bool:=(gt ys (lv M+i/64)).testBit (i%64) || (gt ys (lv M+tv M)).testBit (i/64)
/-- The leaves of the k-th shard that is sought. -/
def sa (M ns hd k:Nat):Nat:=ct (lv M) ns ((hd+k)%ns)
def sb (M ns hd k:Nat):Nat:=ct (lv M) ns ((hd+k)%ns+1)
theorem sab {M ns hd k:Nat} (h:1≤ns):sa M ns hd k≤sb M ns hd k∧sb M ns hd k≤lv M:=by
 refine ⟨ct_mono (by omega),?_⟩
 have:=ct_mono (L:=lv M) (p:=ns) (show (hd+k)%ns+1≤ns by have:=Nat.mod_lt (hd+k) h;omega)
 rwa [ct_all h] at this
def Pas (M ns hd:Nat) (ys:List Nat) (k:Nat):Prop:=∀ j,j<k→∀ i,sa M ns hd j≤i→i<sb M ns hd j→hf M ys i=true
section
variable {M ns hd k t:Nat} {ys:List Nat} {s:Sc}
theorem Pas.succ (h:Pas M ns hd ys k) (h2:∀ i,sa M ns hd k≤i→i<sb M ns hd k→hf M ys i=true):Pas M ns hd ys (k+1):=fun j hj i h3 h4=>by
 by_cases e:j=k
 ·subst e;exact h2 i h3 h4
 ·exact h j (by omega) i h3 h4
/-- How many steps are left at most. -/
def mu (M ns k t:Nat):Nat:=(ns - k)*(2+tv M) - t
end
end Go.Proofs.YtfhefofkhmkcnaaGreatDoor

/-
 A grant,step by step,as functions of numbers and lists;what holds of it whatever others do between. No program in it.
-/
namespace Go.Proofs.YtfhefofkhmkcnaaGreatDoor
set_option maxRecDepth 100000
set_option maxRecDepth 100000
set_option maxRecDepth 100000
open Go.RowKit
set_option maxHeartbeats 8000000
set_option linter.unusedVariables false
/-- A step of a grant: the operation, what it has seen, the cells, whether it takes effect. -/
def gS (a M ns:Nat) (ys:List Nat) (s:Sc) (sn:List Nat):Sc :=
 if s.phase=1 then skS (ns:Int) M ys (sa M ns s.shard.toNat s.sought.toNat) (sb M ns s.shard.toNat s.sought.toNat) s
 else if s.phase=2 then lookS (ns:Int) (gt ys s.leaf.toNat) s
 else if s.phase=3 then claimS a 0 [] (gt ys s.leaf.toNat) s
 else if s.phase=4∨s.phase=5 then stO a M 0 [] ys s
 else if s.phase=6 then swF (lv M) (gt ys s.at_.toNat) s
 else if s.phase=7 then swA (lv M) (gt ys s.at_.toNat) (gt sn s.at_.toNat) s
 else s
def gN (M:Nat) (ys:List Nat) (s:Sc) (sn:List Nat):List Nat :=
 if s.phase=6 then (if fb (gt ys s.at_.toNat) 32=true then [] else sn ++ [gt ys s.at_.toNat])
 else if s.phase=7 then (if gt ys s.at_.toNat=gt sn s.at_.toNat then (if s.at_+1<(lv M:Int) then sn else []) else [])
 else sn
def gC (M:Nat) (ys:List Nat) (s:Sc):List Nat :=
 if s.phase=3 then claimC ys s else if s.phase=4∨s.phase=5 then stC M ys s else ys
def gB (M:Nat) (ys:List Nat) (s:Sc) (sn:List Nat):Bool :=
 if s.phase=3 then decide (gt ys s.leaf.toNat=s.word) else if s.phase=7 then swAB (lv M) (gt ys s.at_.toNat) (gt sn s.at_.toNat) s else false
/-- A grant that begins. -/
def gS0 (hd:Int):Sc:=⟨1,0,0,0,false,1,hd,0,0,0,0,false,0,0,0,0⟩
/-- Words that saw no free bit. -/
def Fls (sn:List Nat):Prop:=∀ x,x∈sn→x<U64∧fl x=true
/-- Where a grant may be. -/
inductive GP (M ns:Nat) (zs:List Int) (s:Sc):List Nat→Prop
 | done (h:s.phase=0):GP M ns zs s []
 | seek (k t:Nat) (h:s.phase=1) (h1:s.sought=(k:Int)) (h2:s.at_=(t:Int)) (h3:k<ns) (h4:t≤tv M):GP M ns zs s []
 | look (i:Nat) (h:s.phase=2) (h1:s.leaf=(i:Int)) (h2:i<lv M):GP M ns zs s []
 | claim (i b:Nat) (h:s.phase=3) (h1:s.leaf=(i:Int)) (h2:s.bit=(b:Int)) (h3:i<lv M) (h4:b<32) (h5:nf M zs i b=false) (h6:s.word.testBit b=false):GP M ns zs s []
 | mark (i:Nat) (h:s.phase=4∨s.phase=5) (h1:s.leaf=(i:Int)) (h2:i<lv M) (h3:s.at_=0∨s.at_=1):GP M ns zs s []
 | first (sn:List Nat) (h:s.phase=6) (h1:s.at_=(sn.length:Int)) (h2:sn.length<lv M) (h3:Fls sn):GP M ns zs s sn
 | again (sn:List Nat) (t:Nat) (h:s.phase=7) (h1:s.at_=(t:Int)) (h2:t<lv M) (h3:sn.length=lv M) (h4:Fls sn):GP M ns zs s sn
structure GI (M ns:Nat) (zs:List Int) (N:Nat) (s:Sc) (sn:List Nat):Prop where
 kd:s.kind=1
 er:s.phase≠0→s.err=0
 sd:0≤s.shard∧s.shard<(ns:Int)
 so:0≤s.sought∧s.sought≤(N:Int)
 it:s.item=0
 aa:0≤s.aad∧s.aad<4294967296
 wd:s.word<18446744073709551616
 ph:GP M ns zs s sn
/-- The cells: as many as there are, and in the leaves the bits that can't be free are set. -/
structure YI (M:Nat) (zs:List Int) (ys:List Nat):Prop where
 len:ys.length=lv M+tv M+1
 fit:∀ x∈ys,x<U64
 top:∀ i b,i<lv M→b<32→nf M zs i b=true→(gt ys i).testBit b=true
section
variable {a M ns N:Nat} {zs:List Int} {ys:List Nat} {s:Sc} {sn:List Nat}
theorem YI.leaf (h:YI M zs ys) {i W:Nat} (hi:i<lv M) (hW:W<U64) (hb:∀ b,b<32→nf M zs i b=true→W.testBit b=true):YI M zs (ys.set i W):=by
 refine ⟨by simpa using h.len,fit_set h.fit _ hW,fun j b hj hb' hn=>?_⟩
 rw [gt_set (by have:=h.len;omega)]
 split
 ·rename_i e;subst e;exact hb b hb' hn
 ·exact h.top j b hj hb' hn
theorem YI.sum (h:YI M zs ys) {i W:Nat} (hi:lv M≤i) (hW:W<U64):YI M zs (ys.set i W):=by
 refine ⟨by simpa using h.len,fit_set h.fit _ hW,fun j b hj hb' hn=>?_⟩
 have e:gt (ys.set i W) j=gt ys j:=by
  by_cases hl:i<ys.length
  ·rw [gt_set hl,if_neg (by omega)]
  ·rw [List.set_eq_of_length_le (by omega)]
 rw [e];exact h.top j b hj hb' hn
theorem gt_sum {i j W:Nat} (hi:lv M≤i) (hj:j<lv M):gt (ys.set i W) j=gt ys j:=by
 by_cases hl:i<ys.length
 ·rw [gt_set hl,if_neg (by omega)]
 ·rw [List.set_eq_of_length_le (by omega)]
/-- A free bit is an offset's, and not reserved. -/
theorem YI.free (h:YI M zs ys) {i b:Nat} (hi:i<lv M) (hb:b<32) (h0:(gt ys i).testBit b=false):nf M zs i b=false:=by
 cases hn:nf M zs i b with
 | false=>rfl
 | true=>rw [h.top i b hi hb hn] at h0;cases h0
theorem nf_no {i b:Nat} (h:nf M zs i b=false):32*i+b<M∧hasB zs ((32*i+b:Nat):Int)=false:=by
 unfold nf at h
 rw [Bool.or_eq_false_iff,decide_eq_false_iff_not] at h
 exact ⟨by omega,h.2⟩
theorem gon_one {n:Nat} {xs:List Int} {s:Sc} (h:s.kind=1):gon a n xs s=ende s:=by
 unfold gon fur
 rw [if_neg (by simp [h])]
/-- Where a seek is behind a step. -/
def skAt (s:Sc) (u x:Nat):Sc:=⟨s.kind,s.addr,s.err,s.aad,s.used,s.phase,s.shard,s.sought,s.leaf,s.bit,x,s.full,(u:Int),s.tries,s.item,s.stamp⟩
theorem els_mv {k:Nat} {s s':Sc} (hso:s'.sought=(k:Int)) (hk:k<ns) (e1:seekS s'=seekS s) (e2:firstS s'=firstS s) :
  (k+1<ns∧elsS (ns:Int) s'=seekS s)∨(k+1=ns∧elsS (ns:Int) s'=firstS s):=by
 unfold elsS
 split
 ·exact .inl ⟨by omega,e1⟩
 ·exact .inr ⟨by omega,e2⟩
theorem on_mv {hd k t:Nat} {s s':Sc} (hns:1≤ns) (hso:s'.sought=(k:Int)) (hat:s'.at_=(t:Int)) (hk:k<ns) (hw:s'.word<18446744073709551616) (e0:∀ u,atS s' u=skAt s (u+1) s'.word) (e1:seekS s'=seekS s) (e2:firstS s'=firstS s) :
  (∃ u x,t<u∧u≤tv M∧x<18446744073709551616∧onS (ns:Int) (sa M ns hd k) (sb M ns hd k) s'=skAt s u x)∨(k+1<ns∧onS (ns:Int) (sa M ns hd k) (sb M ns hd k) s'=seekS s)∨(k+1=ns∧onS (ns:Int) (sa M ns hd k) (sb M ns hd k) s'=firstS s):=by
 obtain ⟨hab,hbl⟩:=sab (M:=M) (hd:=hd) (k:=k) hns
 unfold onS
 rw [hat,Int.toNat_natCast]
 rcases nxt_cases (sa M ns hd k) (sb M ns hd k) t s'.word with ⟨u,e,g1,g2,g3,g4,g5⟩ | ⟨e,g⟩
 ·rw [e]
  refine .inl ⟨u+1,s'.word,by omega,?_,hw,e0 u⟩
  have:=cnt_top.1 ⟨g1,g2⟩
  unfold tv tq
  omega
 ·rw [e]
  exact .inr (els_mv hso hk e1 e2)
theorem seek_mv {hd k t:Nat} (hns:1≤ns) (hso:s.sought=(k:Int)) (hat:s.at_=(t:Int)) (hk:k<ns) (hw:s.word<18446744073709551616) (hx:gt ys (lv M+tv M)<18446744073709551616) :
  (∃ u x,t<u∧u≤tv M∧x<18446744073709551616∧skS (ns:Int) M ys (sa M ns hd k) (sb M ns hd k) s=skAt s u x)∨(∃ i,i<lv M∧skS (ns:Int) M ys (sa M ns hd k) (sb M ns hd k) s=foundS s i) ∨
  (k+1<ns∧skS (ns:Int) M ys (sa M ns hd k) (sb M ns hd k) s=seekS s)∨(k+1=ns∧skS (ns:Int) M ys (sa M ns hd k) (sb M ns hd k) s=firstS s):=by
 obtain ⟨hab,hbl⟩:=sab (M:=M) (hd:=hd) (k:=k) hns
 unfold skS
 split
 ·rename_i h0
  have ht:t=0:=by omega
  subst ht
  rcases on_mv (M:=M) (hd:=hd) (s:=s) (s':=wdS s (gt ys (lv M+tv M))) hns hso hat hk hx (fun u=>rfl) rfl rfl with h | h | h
  ·exact .inl h
  ·exact .inr (.inr (.inl h))
  ·exact .inr (.inr (.inr h))
 ·rcases fre_cases (sa M ns hd k) (sb M ns hd k) (gt ys (lv M+(s.at_.toNat - 1))) (s.at_.toNat - 1) with ⟨i,e,g1,g2,_⟩ | ⟨e,_⟩
  ·rw [e]
   exact .inr (.inl ⟨i,by omega,rfl⟩)
  ·rw [e]
   rcases on_mv (M:=M) (hd:=hd) (s:=s) (s':=s) hns hso hat hk hw (fun u=>rfl) rfl rfl with h | h | h
   ·exact .inl h
   ·exact .inr (.inr (.inl h))
   ·exact .inr (.inr (.inr h))
/-- What a step of marking may come to. -/
theorem dn_mv {n:Nat} {xs:List Int} {s:Sc} (hk:s.kind=1):dn a n xs s=ende s∨(s.at_=0∧dn a n xs s=root_ s):=by
 unfold dn
 split
 ·exact .inl (gon_one hk)
 ·rename_i h
  refine .inr ⟨?_,rfl⟩
  unfold ends_ at h
  simp at h
  exact h.1
theorem mark_mv (hk:s.kind=1) (hp:s.phase=4∨s.phase=5):(∃ x,x<18446744073709551616∧stO a M 0 [] ys s=setp (worded s x)∧s.phase=4)∨(∃ x,x<18446744073709551616∧s.at_=0∧stO a M 0 [] ys s=root_ (worded s x))∨(∃ x,stO a M 0 [] ys s=ende (worded s x))∨(¬ s.word<18446744073709551616∨¬ gt ys (hcel M s)<18446744073709551616∨¬ bt s<64):=by
 by_cases hw:s.word<18446744073709551616
 rotate_left
 ·exact .inr (.inr (.inr (.inl hw)))
 by_cases hx:gt ys (hcel M s)<18446744073709551616
 rotate_left
 ·exact .inr (.inr (.inr (.inr (.inl hx))))
 by_cases hb:bt s<64
 rotate_left
 ·exact .inr (.inr (.inr (.inr (.inr hb))))
 have aux:∀ x,x<18446744073709551616→(∃ x,x<18446744073709551616∧s.at_=0∧dn a 0 [] (worded s x)=root_ (worded s x))∨(∃ x,dn a 0 [] (worded s x)=ende (worded s x)):=fun x hx=>by
  rcases dn_mv (a:=a) (n:=0) (xs:=[]) (s:=worded s x) hk with h | ⟨h0,h⟩
  ·exact .inr ⟨x,h⟩
  ·exact .inl ⟨x,hx,h0,h⟩
 unfold stO
 split
 ·rename_i h4
  unfold lk
  split
  ·rcases dn_mv (a:=a) (n:=0) (xs:=[]) (s:=worded s (gt ys (hcel M s))) hk with h | ⟨h0,h⟩
   ·exact .inr (.inr (.inl ⟨_,h⟩))
   ·exact .inr (.inl ⟨_,hx,h0,h⟩)
  ·exact .inl ⟨_,hx,rfl,h4⟩
 ·rcases dn_mv (a:=a) (n:=0) (xs:=[]) (s:=worded s (mkd s.word (bt s) s.full)) hk with h | ⟨h0,h⟩
  ·exact .inr (.inr (.inl ⟨_,h⟩))
  ·exact .inr (.inl ⟨_,mkd_lt _ hw hb,h0,h⟩)
/-- Marking leaves the leaves. -/
theorem stC_sum (hlv:∀ i:Nat,s.leaf=(i:Int)→i<lv M→i/64<tv M):stC M ys s=ys∨∃ i W,lv M≤i∧stC M ys s=ys.set i W∧W=mkd s.word (bt s) s.full:=by
 unfold stC
 split
 ·exact .inl rfl
 ·split
  ·refine .inr ⟨hcel M s,_,?_,rfl,rfl⟩
   unfold hcel
   split <;> omega
  ·exact .inl rfl
theorem claim_mv (hk:s.kind=1) (x:Nat):(x=s.word∧(claimS a 0 [] x s=fullS (adS s (adr a s.leaf.toNat s.bit.toNat))∨claimS a 0 [] x s=ende (adS s (adr a s.leaf.toNat s.bit.toNat))))∨(x≠s.word∧claimS a 0 [] x s=againS s∧(againS s).phase=2):=by
 unfold claimS
 split
 ·rename_i h
  refine .inl ⟨h,?_⟩
  split
  ·exact .inl rfl
  ·exact .inr (gon_one hk)
 ·rename_i h
  exact .inr ⟨h,rfl,if_pos hk⟩
theorem fls_snoc {x:Nat} (h:Fls sn) (hx:x<U64) (hf:fb x 32=false):Fls (sn ++ [x]):=fun y hy=>by
 rcases List.mem_append.1 hy with h1 | h1
 ·exact h y h1
 ·rw [List.mem_singleton.1 h1]
  exact ⟨hx,by unfold fl;rw [hf];rfl⟩
theorem fls_nil:Fls []:=fun _ h=>by cases h
theorem lv_top {i:Nat} (hM:M≤65536) (hi:i<lv M):i/64<tv M∧i/64<64∧i%64<64∧tv M≤64:=by
 have:=lv_le hM
 unfold tv tq
 omega
theorem adr_rng {a x y:Nat}:(0:Int)≤((adr a x y:Nat):Int)∧((adr a x y:Nat):Int)<4294967296:=⟨by omega,by unfold adr;omega⟩
/-- What holds stays so at a step. -/
theorem gi_step (hM:M≤65536) (hM0:0<M) (hns:1≤ns) (h:GI M ns zs N s sn) (hy:YI M zs ys):GI M ns zs (N+1) (gS a M ns ys s sn) (gN M ys s sn)∧YI M zs (gC M ys s):=by
 obtain ⟨kd,er,sd,so,it,aa,wd,ph⟩:=h
 have hL:0<lv M:=by unfold lv;omega
 cases ph with
 | done h =>
  unfold gS gN gC
  simp only [h]
  refine ⟨?_,hy⟩
  show GI M ns zs (N+1) s []
  exact ⟨kd,er,sd,⟨so.1,by omega⟩,it,aa,wd,.done h⟩
 | seek k t h h1 h2 h3 h4 =>
  have e:s.sought.toNat=k:=by rw [h1,Int.toNat_natCast]
  unfold gS gN gC
  simp only [h,e]
  have er0:=er (by omega)
  refine ⟨?_,hy⟩
  show GI M ns zs (N+1) (skS (ns:Int) M ys (sa M ns s.shard.toNat k) (sb M ns s.shard.toNat k) s) []
  rcases seek_mv (M:=M) (ys:=ys) (hd:=s.shard.toNat) hns h1 h2 h3 wd (gt_lt hy.fit _) with ⟨u,x,g1,g2,g3,g4⟩ | ⟨i,g1,g2⟩ | ⟨g1,g2⟩ | ⟨g1,g2⟩
  ·rw [g4];exact ⟨kd,fun _=>er0,sd,⟨so.1,by show s.sought≤_;omega⟩,it,aa,g3,.seek k u h h1 rfl h3 g2⟩
  ·rw [g2];exact ⟨kd,fun _=>er0,sd,⟨so.1,by show s.sought≤_;omega⟩,it,aa,by show 0<_;omega,.look i rfl rfl g1⟩
  ·rw [g2];exact ⟨kd,fun _=>er0,sd,⟨by show 0≤s.sought+1;omega,by show s.sought+1≤_;omega⟩,it,aa,by show 0<_;omega,.seek (k+1) 0 rfl (by show s.sought+1=_;omega) rfl g1 (Nat.zero_le _)⟩
  ·rw [g2];exact ⟨kd,fun _=>er0,sd,⟨by show 0≤s.sought+1;omega,by show s.sought+1≤_;omega⟩,it,aa,by show 0<_;omega,.first [] rfl rfl hL fls_nil⟩
 | look i h h1 h2 =>
  have e:s.leaf.toNat=i:=by rw [h1,Int.toNat_natCast]
  unfold gS gN gC
  simp only [h,e]
  have er0:=er (by omega)
  refine ⟨?_,hy⟩
  show GI M ns zs (N+1) (lookS (ns:Int) (gt ys i) s) []
  unfold lookS
  split
  ·rename_i hb
   obtain ⟨f1,f2,f3⟩:=f_yes hb
   exact ⟨kd,fun _=>er0,sd,⟨so.1,by show s.sought≤_;omega⟩,it,aa,gt_lt hy.fit _,.claim i _ rfl h1 rfl h2 f1 (hy.free h2 f1 f2) f2⟩
  ·split
   ·rename_i hlt
    exact ⟨kd,fun _=>er0,sd,⟨by show 0≤s.sought+1;omega,by show s.sought+1≤_;omega⟩,it,aa,by show 0<_;omega,.seek (s.sought+1).toNat 0 rfl (by show s.sought+1=_;omega) rfl (by omega) (Nat.zero_le _)⟩
   ·exact ⟨kd,fun _=>er0,sd,⟨by show 0≤s.sought+1;omega,by show s.sought+1≤_;omega⟩,it,aa,by show 0<_;omega,.first [] rfl rfl hL fls_nil⟩
 | claim i b h h1 h2 h3 h4 h5 h6 =>
  have e:s.leaf.toNat=i:=by rw [h1,Int.toNat_natCast]
  have e2:s.bit.toNat=b:=by rw [h2,Int.toNat_natCast]
  have er0:=er (by omega)
  unfold gS gN gC
  simp only [h]
  constructor
  ·show GI M ns zs (N+1) (claimS a 0 [] (gt ys s.leaf.toNat) s) []
   rcases claim_mv (a:=a) kd (gt ys s.leaf.toNat) with ⟨g0,g | g⟩ | ⟨g0,g,gp⟩
   ·rw [g];exact ⟨kd,fun _=>er0,sd,⟨so.1,by show s.sought≤_;omega⟩,it,adr_rng,by show 0<_;omega,.mark i (.inl rfl) h1 h3 (.inl rfl)⟩
   ·rw [g];exact ⟨kd,fun h=>absurd rfl h,sd,⟨so.1,by show s.sought≤_;omega⟩,it,adr_rng,by show 0<_;omega,.done rfl⟩
   ·rw [g];exact ⟨kd,fun _=>er0,sd,⟨so.1,by show s.sought≤_;omega⟩,it,aa,by show 0<_;omega,.look i gp h1 h3⟩
  ·show YI M zs (claimC ys s)
   unfold claimC
   rw [e,e2]
   split
   ·rename_i hx
    refine hy.leaf h3 (clm_lt _ _) fun k hk hn=>?_
    rw [clm_bit _ _ hk,← hx,hy.top i k h3 hk hn];rfl
   ·exact hy
 | mark i h h1 h2 h3 =>
  have hn:¬ s.phase=1∧¬ s.phase=2∧¬ s.phase=3∧¬ s.phase=6∧¬ s.phase=7∧s.phase≠0:=by omega
  obtain ⟨n1,n2,n3,n6,n7,n0⟩:=hn
  have er0:=er n0
  have hlt:=lv_top hM h2
  have hlf:s.leaf.toNat=i:=by rw [h1,Int.toNat_natCast]
  have hbt:bt s<64:=by unfold bt;rw [hlf];split <;> omega
  unfold gS gN gC
  rw [if_neg n1,if_neg n2,if_neg n3,if_pos h,if_neg n6,if_neg n7,if_neg n3,if_pos h]
  constructor
  ·rcases mark_mv (a:=a) (M:=M) (ys:=ys) kd h with ⟨x,g1,g2,g3⟩ | ⟨x,g1,g2,g3⟩ | ⟨x,g⟩ | g | g | g
   ·rw [g2];exact ⟨kd,fun _=>er0,sd,⟨so.1,by show s.sought≤_;omega⟩,it,aa,g1,.mark i (.inr rfl) h1 h2 h3⟩
   ·rw [g3];exact ⟨kd,fun _=>er0,sd,⟨so.1,by show s.sought≤_;omega⟩,it,aa,g1,.mark i (.inl rfl) h1 h2 (.inr rfl)⟩
   ·rw [g];exact ⟨kd,fun h=>absurd rfl h,sd,⟨so.1,by show s.sought≤_;omega⟩,it,aa,by show 0<_;omega,.done rfl⟩
   ·exact absurd wd g
   ·exact absurd (gt_lt hy.fit _) g
   ·exact absurd hbt g
  ·rcases stC_sum (M:=M) (ys:=ys) (s:=s) (fun j e hj=>(lv_top hM hj).1) with e | ⟨j,W,hj,e,eW⟩
   ·rw [e];exact hy
   ·rw [e]
    refine hy.sum hj ?_
    rw [eW];exact mkd_lt _ wd hbt
 | first sn h h1 h2 h3 =>
  have e:s.at_.toNat=sn.length:=by rw [h1,Int.toNat_natCast]
  have er0:=er (by omega)
  unfold gS gN gC
  simp only [h,e]
  refine ⟨?_,hy⟩
  show GI M ns zs (N+1) (swF (lv M) (gt ys sn.length) s) (if fb (gt ys sn.length) 32=true then [] else sn ++ [gt ys sn.length])
  unfold swF
  cases hb:fb (gt ys sn.length) 32 with
  | true =>
   obtain ⟨f1,f2,f3⟩:=f_yes hb
   rw [if_pos rfl,if_pos rfl]
   exact ⟨kd,fun _=>er0,sd,⟨so.1,by show s.sought≤_;omega⟩,it,aa,gt_lt hy.fit _,.claim sn.length _ rfl h1 rfl h2 f1 (hy.free h2 f1 f2) f2⟩
  | false =>
   rw [if_neg Bool.false_ne_true,if_neg Bool.false_ne_true]
   have hF:=fls_snoc h3 (gt_lt hy.fit _) hb
   split
   ·rename_i hlt
    exact ⟨kd,fun _=>er0,sd,⟨so.1,by show s.sought≤_;omega⟩,it,aa,wd,.first _ h (by show s.at_+1=_;simp;omega) (by simp;omega) hF⟩
   ·rename_i hlt
    exact ⟨kd,fun _=>er0,sd,⟨so.1,by show s.sought≤_;omega⟩,it,aa,wd,.again _ 0 rfl rfl hL (by simp;omega) hF⟩
 | again sn t h h1 h2 h3 h4 =>
  have e:s.at_.toNat=t:=by rw [h1,Int.toNat_natCast]
  have er0:=er (by omega)
  unfold gS gN gC
  simp only [h,e]
  refine ⟨?_,hy⟩
  show GI M ns zs (N+1) (swA (lv M) (gt ys t) (gt sn t) s) (if gt ys t=gt sn t then (if s.at_+1<(lv M:Int) then sn else []) else [])
  unfold swA
  split
  ·split
   ·rename_i hx hlt
    exact ⟨kd,fun _=>er0,sd,⟨so.1,by show s.sought≤_;omega⟩,it,aa,wd,.again sn (t+1) h (by show s.at_+1=_;omega) (by omega) h3 h4⟩
   ·exact ⟨kd,fun h=>absurd rfl h,sd,⟨so.1,by show s.sought≤_;omega⟩,it,aa,wd,.done rfl⟩
  ·exact ⟨kd,fun _=>er0,sd,⟨so.1,by show s.sought≤_;omega⟩,it,aa,wd,.first [] rfl rfl hL fls_nil⟩
end
end Go.Proofs.YtfhefofkhmkcnaaGreatDoor

/-
 What the steps that a grant is made of answer of a grant. Conditions: a block that may be,as many cells as there are,a grant where it may be.
-/
namespace Go.Proofs.YtfhefofkhmkcnaaGreatDoor
set_option maxRecDepth 100000
set_option maxRecDepth 100000
set_option maxRecDepth 100000
open Go.RowKit
set_option maxHeartbeats 8000000
set_option linter.unusedVariables false
/-- What a step answers: cells in new memory or those that were handed in, an operation with lists of its own, whether it took effect. -/
def RetG (s:Sc) (l:Ls) (m:Nat) (ys:List Nat) (b:Bool) (B0:Option Addr) (w:World) (e:Ending) (w':World):Prop :=
 ∃ h' B d,e=.returned (.tuple #[.slice B m d,.agg (opv h' s),.bool b])∧US w' B m d ys∧Lists w.heap.size w' h' l∧(∀ k,k<w.heap.size→Apart k B0→Apart k B)∧Below w.heap.size w w'
/-- The lists of a grant whose request holds Addrs. -/
def gr (rq:List Int) (sn:List Nat):Ls:=⟨rq,[],[],sn.map Int.ofNat⟩
section
variable {rq:List Int}
variable {w w':World} {lo a M ns m d N:Nat} {p wo qu tr:Int} {A B:Option Addr} {n c:Nat} {zs:List Int} {ys:List Nat} {h:Hd} {s:Sc} {sn:List Nat}
theorem gonR_no {a n:Nat} {xs:List Int} {s:Sc} (h:s.kind≠4):gon a n xs s=ende s:=by
 unfold gon fur
 rw [if_neg (by simp [h])]
theorem claimR_no {a n:Nat} {xs:List Int} {s:Sc} (h:s.kind≠4) (x:Nat):claimS a n xs x s=claimS a 0 [] x s:=by
 unfold claimS
 rw [gonR_no (show (adS s _).kind≠4 from h),gonR_no (show (adS s _).kind≠4 from h)]
theorem stR_no {a M n:Nat} {xs:List Int} {ys:List Nat} {s:Sc} (h:s.kind≠4):stO a M n xs ys s=stO a M 0 [] ys s:=by
 have d:∀ s':Sc,s'.kind≠4→dn a n xs s'=dn a 0 [] s':=fun s' h=>by unfold dn;rw [gonR_no h,gonR_no h]
 have e:∀ x,dn a n xs (worded s x)=dn a 0 [] (worded s x):=fun x=>d _ h
 unfold stO lk
 rw [e,e]
theorem gr_len (H:Lists lo w h (gr rq sn)):h.n0=rq.length∧h.n1=0∧h.n2=0∧h.n3=sn.length:=by
 have h0:=H.i0.len
 have h1:=H.i1.len
 have h2:=H.i2.len
 have h3:=H.i3.len
 unfold gr at h0 h1 h2 h3
 simp at h0 h1 h2 h3
 exact ⟨h0.symm,h1.symm,h2.symm,h3.symm⟩
theorem skR_nil {sh:Int} {M:Nat} {ys:List Nat} {a b:Nat} {s:Sc}:skL sh M ys a b s (gr rq [])=gr rq []:=by
 have els:∀ s':Sc,elsL sh s' (gr rq [])=gr rq []:=fun s'=>by unfold elsL;split <;> rfl
 unfold skL
 split
 ·unfold onL
  split
  ·rfl
  ·exact els _
 ·split
  ·rfl
  ·unfold onL
   split
   ·rfl
   ·exact els _
theorem gp_few (hM:M≤65536) (hG:GI M ns zs N s sn):sn.length≤2048:=by
 have:=lv_le hM
 cases hG.ph <;> first | (simp;done) | omega
set_option maxHeartbeats 1000000
theorem gp_seek (ha:a<4294967296) (hM:Much a p M) (h1:1≤ns) (h2:ns≤64) (hq:rq.length≤65536) (hG:GI M ns zs N s sn) (hY:YI M zs ys) (hU:US w B m d ys) (hL:Lists lo w h (gr rq sn)) (hph:s.phase=1) :
  Calls Tryz.prog 116 #[.agg #[.int .u32 (a:Int),.int .i64 p,.slice A n c,.int .i64 (ns:Int),.int .i64 wo,.int .i64 qu,.int .i64 tr],.slice B m d,.agg (opv h s)] w (RetSk (gS a M ns ys s sn) (gr rq (gN M ys s sn)) w):=by
 obtain ⟨z0,z1,z2,z3⟩:=gr_len hL
 have hml:=hU.len
 have hyl:=hY.len
 obtain ⟨kd,er,sd,so,it,aa,wd,ph⟩:=hG
 have e1:gS a M ns ys s sn=skS (ns:Int) M ys (sa M ns s.shard.toNat s.sought.toNat) (sb M ns s.shard.toNat s.sought.toNat) s:=by unfold gS;rw [if_pos hph]
 have e2:gN M ys s sn=sn:=by unfold gN;rw [if_neg (by omega),if_neg (by omega)]
 rw [e1,e2]
 cases ph with
 | seek k t q1 q2 q3 q4 q5 =>
  have ht:=tv_le hM.most
  have e:s.sought.toNat=k:=by rw [q2,Int.toNat_natCast]
  rw [e]
  have R:=sstep_any (w:=w) (lo:=lo) (M:=M) (ns:=ns) (hd:=s.shard.toNat) (k:=k) (tt:=t) (wo:=wo) (qu:=qu) (tr:=tr) (A:=A) (n:=n) (c:=c) hL (by omega) (by omega) (by omega) (by simp at z3;omega) hU (by omega) wd hph ha hM h1 h2 (by omega) (by omega) q2 q4 q3 (by omega)
  have e3:∀ x y,skL (ns:Int) M ys x y s (gr rq [])=gr rq []:=fun x y=>skR_nil
  rw [e3] at R
  exact R
 | _=>omega
theorem gp_claim (ha:a<4294967296) (hM:Much a p M) (h1:1≤ns) (h2:ns≤64) (hN:N≤60000) (hq:rq.length≤65536) (hG:GI M ns zs N s sn) (hY:YI M zs ys) (hU:US w B m d ys) (hL:Lists lo w h (gr rq sn)) (hph:s.phase=2∨s.phase=3) :
  Calls Tryz.prog 118 #[.agg #[.int .u32 (a:Int),.int .i64 p,.slice A n c,.int .i64 (ns:Int),.int .i64 wo,.int .i64 qu,.int .i64 tr],.slice B m d,.agg (opv h s)] w (RetG (gS a M ns ys s sn) (gr rq (gN M ys s sn)) m (gC M ys s) (gB M ys s sn) B w):=by
 obtain ⟨z0,z1,z2,z3⟩:=gr_len hL
 have hml:=hU.len
 have hyl:=hY.len
 have hlv:=lv_le hM.most
 have htv:=tv_le hM.most
 obtain ⟨kd,er,sd,so,it,aa,wd,ph⟩:=hG
 cases ph with
 | look i q1 q2 q3 =>
  have e:s.leaf.toNat=i:=by rw [q2,Int.toNat_natCast]
  have e1:gS a M ns ys s []=lookS (ns:Int) (gt ys i) s:=by unfold gS;rw [if_neg (by omega),if_pos q1,e]
  have e2:gN M ys s []=[]:=by unfold gN;rw [if_neg (by omega),if_neg (by omega)]
  have e3:gC M ys s=ys:=by unfold gC;rw [if_neg (by omega),if_neg (by omega)]
  have e4:gB M ys s []=false:=by unfold gB;rw [if_neg (by omega),if_neg (by omega)]
  rw [e1,e2,e3,e4]
  have R:=cstep_look (w:=w) (a:=a) (p:=p) (sh:=(ns:Int)) (wo:=wo) (qu:=qu) (tr:=tr) (A:=A) (n:=n) (c:=c) hL (by omega) (by omega) (by omega) (by simp at z3;omega) hU q2 (by omega) so.1 (by omega) q1
  have e5:lookL (ns:Int) (gt ys i) s (gr rq [])=gr rq []:=by unfold lookL;split;rfl;split <;> rfl
  rw [e5] at R
  refine R.mono ?_
  rintro e w' ⟨A0,c0,A1,n1,c1,A2,n2,c2,A3,n3,c3,B',d',rfl,U,L',hA,K⟩
  exact ⟨_,_,_,rfl,U,L',hA,K⟩
 | claim i b q1 q2 q3 q4 q5 q6 q7 =>
  have e:s.leaf.toNat=i:=by rw [q2,Int.toNat_natCast]
  have e1:gS a M ns ys s []=claimS a 0 [] (gt ys i) s:=by unfold gS;rw [if_neg (by omega),if_neg (by omega),if_pos q1,e]
  have e2:gN M ys s []=[]:=by unfold gN;rw [if_neg (by omega),if_neg (by omega)]
  have e3:gC M ys s=claimC ys s:=by unfold gC;rw [if_pos q1]
  have e4:gB M ys s []=decide (gt ys i=s.word):=by unfold gB;rw [if_pos q1,e]
  rw [e1,e2,e3,e4]
  have hf:=nf_no q6
  have R:=cstep_claim (w:=w) (a:=a) (p:=p) (sh:=(ns:Int)) (wo:=wo) (qu:=qu) (tr:=tr) (A:=A) (n:=n) (c:=c) (xs:=rq) ha hM hL.i0 (by omega) (fun h4=>absurd (kd.symm.trans h4) (by omega)) hL (by omega) (by omega) (by simp at z3;omega) hU (by omega) q2 (by omega) q3 q5 hf.1 wd q1
  rw [claimR_no (show s.kind≠4 by omega)] at R
  refine R.mono ?_
  rintro e w' ⟨A0,c0,A1,n1,c1,A2,n2,c2,A3,n3,c3,B',d',rfl,U,L',hA,K⟩
  exact ⟨_,_,_,rfl,U,L',hA,K⟩
 | _=>omega
theorem gp_mark (ha:a<4294967296) (hM:Much a p M) (hq:rq.length≤65536) (hG:GI M ns zs N s sn) (hY:YI M zs ys) (hU:US w B m d ys) (hL:Lists lo w h (gr rq sn)) (hph:s.phase=4∨s.phase=5) :
  Calls Tryz.prog 122 #[.agg #[.int .u32 (a:Int),.int .i64 p,.slice A n c,.int .i64 (ns:Int),.int .i64 wo,.int .i64 qu,.int .i64 tr],.slice B m d,.agg (opv h s)] w fun e w'=>∃ h' B' d',e=.returned (.tuple #[.slice B' m d',.agg (opv h' (gS a M ns ys s sn))])∧US w' B' m d' (gC M ys s)∧Lists w.heap.size w' h' (gr rq (gN M ys s sn))∧(∀ k,k<w.heap.size→Apart k B→Apart k B')∧Below w.heap.size w w':=by
 obtain ⟨z0,z1,z2,z3⟩:=gr_len hL
 have hml:=hU.len
 have hyl:=hY.len
 obtain ⟨kd,er,sd,so,it,aa,wd,ph⟩:=hG
 have e1:gS a M ns ys s sn=stO a M 0 [] ys s:=by unfold gS;rw [if_neg (by omega),if_neg (by omega),if_neg (by omega),if_pos hph]
 have e2:gN M ys s sn=sn:=by unfold gN;rw [if_neg (by omega),if_neg (by omega)]
 have e3:gC M ys s=stC M ys s:=by unfold gC;rw [if_neg (by omega),if_pos hph]
 rw [e1,e2,e3]
 cases ph with
 | mark i q1 q2 q3 q4 =>
  have R:=step_any (w:=w) (a:=a) (p:=p) (sh:=(ns:Int)) (wo:=wo) (qu:=qu) (tr:=tr) (A:=A) (n:=n) (c:=c) (xs:=rq) ha hM (by omega) hL.i0 (fun h4=>absurd (kd.symm.trans h4) (by omega)) hL (by omega) (by omega) (by simp at z3;omega) hU (by omega) q2 q3 q4 hph wd
  rw [stR_no (show s.kind≠4 by omega)] at R
  refine R.mono ?_
  rintro e w' ⟨A0,c0,A1,c1,A2,c2,A3,c3,B',d',rfl,U,L',hA,K⟩
  exact ⟨_,_,_,rfl,U,L',hA,K⟩
 | _=>omega
theorem gp_sweep (ha:a<4294967296) (hM:Much a p M) (hq:rq.length≤65536) (hG:GI M ns zs N s sn) (hY:YI M zs ys) (hU:US w B m d ys) (hL:Lists lo w h (gr rq sn)) (hph:s.phase=6∨s.phase=7) :
  Calls Tryz.prog 120 #[.agg #[.int .u32 (a:Int),.int .i64 p,.slice A n c,.int .i64 (ns:Int),.int .i64 wo,.int .i64 qu,.int .i64 tr],.slice B m d,.agg (opv h s)] w (RetSw w.heap.size (gS a M ns ys s sn) (gr rq (gN M ys s sn)) (gB M ys s sn) w):=by
 have hfew:=gp_few hM.most hG
 obtain ⟨z0,z1,z2,z3⟩:=gr_len hL
 have hml:=hU.len
 have hyl:=hY.len
 obtain ⟨kd,er,sd,so,it,aa,wd,ph⟩:=hG
 cases ph with
 | first sn q1 q2 q3 q4 =>
  have e:s.at_.toNat=sn.length:=by rw [q2,Int.toNat_natCast]
  have e1:gS a M ns ys s sn=swF (lv M) (gt ys sn.length) s:=by unfold gS;rw [if_neg (by omega),if_neg (by omega),if_neg (by omega),if_neg (by omega),if_pos q1,e]
  have e4:gB M ys s sn=false:=by unfold gB;rw [if_neg (by omega),if_neg (by omega)]
  have R:=swstep_first (w:=w) (a:=a) (p:=p) (sh:=(ns:Int)) (wo:=wo) (qu:=qu) (tr:=tr) (A:=A) (n:=n) (c:=c) ha hM hL (by omega) (by omega) (by omega) (by omega) hU q2 (by omega) q3 kd q1
  have e2:gr rq (gN M ys s sn)=swFL (gt ys sn.length) (gr rq sn):=by
   unfold gN swFL;rw [if_pos q1,e]
   split
   ·rfl
   ·unfold gr;simp
  rw [e1,e2,e4]
  exact R
 | again sn t q1 q2 q3 q4 q5 =>
  have e:s.at_.toNat=t:=by rw [q2,Int.toNat_natCast]
  have e1:gS a M ns ys s sn=swA (lv M) (gt ys t) (gt sn t) s:=by unfold gS;rw [if_neg (by omega),if_neg (by omega),if_neg (by omega),if_neg (by omega),if_neg (by omega),if_pos q1,e]
  have e4:gB M ys s sn=swAB (lv M) (gt ys t) (gt sn t) s:=by unfold gB;rw [if_neg (by omega),if_pos q1,e]
  have R:=swstep_again (w:=w) (a:=a) (p:=p) (sh:=(ns:Int)) (wo:=wo) (qu:=qu) (tr:=tr) (A:=A) (n:=n) (c:=c) ha hM hL (by omega) (by omega) (by omega) (by omega) hU q2 (by omega) q3 kd rfl (fun x hx=>(q5 x hx).1) (by omega) q1
  have e2:gr rq (gN M ys s sn)=swAL (lv M) (gt ys t) (gt sn t) s (gr rq sn):=by
   unfold gN swAL;rw [if_neg (by omega),if_pos q1,e]
   split
   ·split <;> rfl
   ·rfl
  rw [e1,e2,e4]
  exact R
 | _=>omega
theorem gp_done (hG:GI M ns zs N s sn) (hph:s.phase=0):gS a M ns ys s sn=s∧gN M ys s sn=sn∧gC M ys s=ys∧gB M ys s sn=false:=by
 refine ⟨?_,?_,?_,?_⟩
 ·unfold gS;rw [if_neg (by omega),if_neg (by omega),if_neg (by omega),if_neg (by omega),if_neg (by omega),if_neg (by omega)]
 ·unfold gN;rw [if_neg (by omega),if_neg (by omega)]
 ·unfold gC;rw [if_neg (by omega),if_neg (by omega)]
 ·unfold gB;rw [if_neg (by omega),if_neg (by omega)]
theorem gp_quiet (hph:s.phase=1∨s.phase=6∨s.phase=7):gC M ys s=ys:=by unfold gC;rw [if_neg (by omega),if_neg (by omega)]
theorem gp_calm (hph:s.phase=1∨s.phase=4∨s.phase=5):gB M ys s sn=false:=by unfold gB;rw [if_neg (by omega),if_neg (by omega)]
theorem gp_phase (hG:GI M ns zs N s sn):s.phase=0∨s.phase=1∨s.phase=2∨s.phase=3∨s.phase=4∨s.phase=5∨s.phase=6∨s.phase=7:=by
 cases hG.ph <;> omega
end
end Go.Proofs.YtfhefofkhmkcnaaGreatDoor

/-
 What the document's Small,Most,Disturb and Begin of layer 17,and grant.Begin,answer. Conditions: a block that may be.
-/
namespace Go.Proofs.YtfhefofkhmkcnaaGreatDoor
set_option maxRecDepth 100000
set_option maxRecDepth 100000
set_option maxRecDepth 100000
open Go.RowKit
set_option maxHeartbeats 8000000
set_option linter.unusedVariables false
def RetW (P:Prop) (w:World) (e:Ending) (w':World):Prop:=∃ b,e=.returned (.bool b)∧(b=true→P)∧Below w.heap.size w w'
/-- What is known of a configuration that may be, of a small block. -/
structure Cg (a:Nat) (p:Int) (n:Nat) (zs:List Int) (sh:Int) (M ns:Nat):Prop where
 much:Much a p M
 few:n≤64
 ris:risB M 0 zs=true
 sml:M≤256
 ns_:sh=(ns:Int)
 ns1:1≤ns
 ns2:ns≤64
theorem wrap_mul (x k:Nat):∃ W:Nat,IntKind.u64.wrap ((x:Int)*(k:Int))=(W:Int)∧W<U64 :=
 ⟨x*k%18446744073709551616,by rw [IntKind.wrap_u64,← Int.natCast_mul];exact (Int.natCast_emod _ _).symm,Nat.mod_lt _ (by decide)⟩
/-- What somebody else does. -/
def DistR (M:Nat) (zs:List Int) (ys ys':List Nat):Prop :=
 (∃ o,o<M∧hasB zs (o:Int)=false∧(gt ys (o/32)).testBit (o%32)=true∧ys'=ys.set (o/32) (drp (gt ys (o/32)) (o%32))) ∨
 (∃ o,o<M∧hasB zs (o:Int)=false∧(gt ys (o/32)).testBit (o%32)=false∧ys'=ys.set (o/32) (clm (gt ys (o/32)) (o%32))) ∨
 (∃ i W,lv M≤i∧W<U64∧ys'=ys.set i W)∨ys'=ys
def RetD (M:Nat) (zs:List Int) (ys:List Nat) (m:Nat) (B0:Option Addr) (w:World) (e:Ending) (w':World):Prop :=
 ∃ B d ys',e=.returned (.slice B m d)∧US w' B m d ys'∧DistR M zs ys ys'∧(∀ k,k<w.heap.size→Apart k B0→Apart k B)∧Below w.heap.size w w'
theorem retD_new {M:Nat} {zs:List Int} {ys ys2:List Nat} {m:Nat} {B0:Option Addr} {w w':World} {g d:Nat} (U:US w' (some ⟨g,0,none⟩) m d ys2) (hD:DistR M zs ys ys2) (hg:w.heap.size≤g) (K:Below w.heap.size w w'):RetD M zs ys m B0 w (.returned (.slice (some ⟨g,0,none⟩) m d)) w' :=
 ⟨_,_,ys2,rfl,U,hD,fun k hk _ b o e=>by injection e with e;injection e with e1;omega,K⟩
section
variable {w w1:World} {lo a m d D M ns N:Nat} {p sh wo qu tr:Int} {A B:Option Addr} {n c:Nat} {zs:List Int} {sn ys:List Nat} {h:Hd} {s:Sc}
theorem small_may {P:Prop} (ha:a<4294967296) (h0:IS .i64 lo w A n c zs) (hb:confB a p n zs sh wo qu tr=false) :
  Calls Tryz.prog 8 #[.agg #[.int .u32 (a:Int),.int .i64 p,.slice A n c,.int .i64 sh,.int .i64 wo,.int .i64 qu,.int .i64 tr]] w (RetW P w):=by
 go_enter Tryz.func8,Tryz.ntmps8
 go_upto_region 1 with (fail)
 have L:=Loc.start w
 replace L:=(L).alloc #[.int .u32 (a:Int),.int .i64 p,.slice A n c,.int .i64 sh,.int .i64 wo,.int .i64 qu,.int .i64 tr] 27
 try simp only [World.size_alloc] at L
 try dsimp only [nput] at L
 generalize (w).alloc (.cells #[.int .u32 (a:Int),.int .i64 p,.slice A n c,.int .i64 sh,.int .i64 wo,.int .i64 qu,.int .i64 tr] 27)=w1 at L ⊢
 generalize w.heap.size=gH at L ⊢
 go_wp2_with (refine lC 1 (L.bk_ 0 rfl) ?_)
 refine (rmay_is ha (h0.below L.K) hb).mono ?_
 rintro e w2 ⟨rfl,K'⟩
 replace L:=L.over K'
 go_wp2
 go_ret
 exact ⟨false,rfl,(fun e=>by cases e),L.K⟩
theorem small_no (ha:a<4294967296) (h0:IS .i64 lo w A n c zs) (hb:confB a p n zs sh wo qu tr=true) (hC:Much a p M) (hm:¬ M≤256) :
  Calls Tryz.prog 8 #[.agg #[.int .u32 (a:Int),.int .i64 p,.slice A n c,.int .i64 sh,.int .i64 wo,.int .i64 qu,.int .i64 tr]] w (RetW (∃ M ns,Cg a p n zs sh M ns) w):=by
 have hM:Much a p M:=hC
 have e2:decide ((M:Int)≤256)=false:=by simp only [decide_eq_false_iff_not];omega
 replace hC:=Lib.hid hC
 go_enter Tryz.func8,Tryz.ntmps8
 go_upto_region 1 with (fail)
 have L:=Loc.start w
 replace L:=(L).alloc #[.int .u32 (a:Int),.int .i64 p,.slice A n c,.int .i64 sh,.int .i64 wo,.int .i64 qu,.int .i64 tr] 27
 try simp only [World.size_alloc] at L
 try dsimp only [nput] at L
 generalize (w).alloc (.cells #[.int .u32 (a:Int),.int .i64 p,.slice A n c,.int .i64 sh,.int .i64 wo,.int .i64 qu,.int .i64 tr] 27)=w1 at L ⊢
 generalize w.heap.size=gH at L ⊢
 go_wp2_with (refine lC 1 (L.bk_ 0 rfl) ?_)
 refine (rmay_is ha (h0.below L.K) hb).mono ?_
 rintro e w2 ⟨rfl,K'⟩
 replace L:=L.over K'
 have H_0:=L.at_ 0 0 rfl (v:=.int .u32 (a:Int)) rfl
 have H_1:=L.at_ 0 1 rfl (v:=.int .i64 p) rfl
 have H_z:=L.lt 0 rfl
 go_wp2_with fail
 refine (rmany_yes hM).mono ?_
 rintro e w3 ⟨rfl,K'⟩
 clear H_0 H_1 H_z
 replace L:=L.over K'
 go_wp2
 go_ret
 exact ⟨false,rfl,(fun e=>by cases e),L.K⟩
theorem small_yes (ha:a<4294967296) (h0:IS .i64 lo w A n c zs) (hb:confB a p n zs sh wo qu tr=true) (hC:Cg a p n zs sh M ns) (hm:M≤256) :
  Calls Tryz.prog 8 #[.agg #[.int .u32 (a:Int),.int .i64 p,.slice A n c,.int .i64 sh,.int .i64 wo,.int .i64 qu,.int .i64 tr]] w (RetW (∃ M ns,Cg a p n zs sh M ns) w):=by
 have hM:Much a p M:=hC.much
 have e2:decide ((M:Int)≤256)=true:=by simp;omega
 replace hC:=Lib.hid hC
 go_enter Tryz.func8,Tryz.ntmps8
 go_upto_region 1 with (fail)
 have L:=Loc.start w
 replace L:=(L).alloc #[.int .u32 (a:Int),.int .i64 p,.slice A n c,.int .i64 sh,.int .i64 wo,.int .i64 qu,.int .i64 tr] 27
 try simp only [World.size_alloc] at L
 try dsimp only [nput] at L
 generalize (w).alloc (.cells #[.int .u32 (a:Int),.int .i64 p,.slice A n c,.int .i64 sh,.int .i64 wo,.int .i64 qu,.int .i64 tr] 27)=w1 at L ⊢
 generalize w.heap.size=gH at L ⊢
 go_wp2_with (refine lC 1 (L.bk_ 0 rfl) ?_)
 refine (rmay_is ha (h0.below L.K) hb).mono ?_
 rintro e w2 ⟨rfl,K'⟩
 replace L:=L.over K'
 have H_0:=L.at_ 0 0 rfl (v:=.int .u32 (a:Int)) rfl
 have H_1:=L.at_ 0 1 rfl (v:=.int .i64 p) rfl
 have H_z:=L.lt 0 rfl
 go_wp2_with fail
 refine (rmany_yes hM).mono ?_
 rintro e w3 ⟨rfl,K'⟩
 clear H_0 H_1 H_z
 replace L:=L.over K'
 go_wp2
 go_ret
 exact ⟨true,rfl,(fun _=>⟨M,ns,hC.out⟩),L.K⟩
theorem small_any (ha:a<4294967296) (h0:IS .i64 lo w A n c zs) :
  Calls Tryz.prog 8 #[.agg #[.int .u32 (a:Int),.int .i64 p,.slice A n c,.int .i64 sh,.int .i64 wo,.int .i64 qu,.int .i64 tr]] w (RetW (∃ M ns,Cg a p n zs sh M ns) w):=by
 cases hb:confB a p n zs sh wo qu tr with
 | false=>exact small_may ha h0 hb
 | true =>
  obtain ⟨h1,h2,h3,h4,h5,_⟩:=confB_no hb
  have hM:=Much.of h1
  by_cases hm:2 ^ (32 - p.toNat)≤256
  ·exact small_yes ha h0 hb (M:=2 ^ (32 - p.toNat)) (ns:=sh.toNat) ⟨hM,h2,by rw [← hM.manyI];exact h3,hm,by omega,by omega,by omega⟩ hm
  ·exact small_no ha h0 hb hM hm
theorem small21_any (ha:a<4294967296) (h0:IS .i64 lo w A n c zs) :
  Calls Tryz.prog 8 #[.agg #[.int .u32 (a:Int),.int .i64 p,.slice A n c,.int .i64 sh,.int .i64 wo,.int .i64 qu,.int .i64 tr]] w (RetW ((∃ M ns,Cg a p n zs sh M ns)∧1≤tr∧tr≤8) w):=by
 cases hb:confB a p n zs sh wo qu tr with
 | false=>exact small_may ha h0 hb
 | true =>
  have hc:=confB_no hb
  refine (small_any ha h0).mono ?_
  rintro e w' ⟨bo,e1,hB,K⟩
  exact ⟨bo,e1,fun h=>⟨hB h,by omega,by omega⟩,K⟩
theorem gbegin_any (hd:Int) :
  Calls Tryz.prog 112 #[.int .i64 hd] w (RetOp hd0 (gS0 hd) w):=by
 go_enter Tryz.func112,Tryz.ntmps112
 go_upto_region 1 with (fail)
 have L:=Loc.start w
 generalize hal:World.alloc _ _=w1
 replace L:=L.a1 hal
 clear hal
 replace L:=L.is0 (opv hd0 sc0) rfl
 generalize w.heap.size=gR at L ⊢
 go_wp2_with (refine wpList_store_row rfl 43 (.tmp 2) (.tmp 5) rfl gR _ rfl (show _=Value.agg (opv ⟨none,0,0,none,0,0,none,0,0,none,0,0⟩ ⟨1,0,0,0,false,1,hd,0,0,0,0,false,0,0,0,0⟩) from rfl) _ _ (L.bk_ 0 rfl) op_sz rfl (opv_one _ _) ?_)
 generalize hal:World.setRow _ _ _=w2
 replace L:=L.rr0 hal
 clear hal
 refine eC Tryz.results112 (L.bk_ 0 rfl) ?_
 exact ⟨rfl,L.K⟩
theorem dist_drop (hD:D<4294967296) (hC:Cg a p n zs (ns:Int) M ns) (h0:IS .i64 lo w A n c zs) (hY:YI M zs ys) (hU:US w B m d ys) (hlt:D%8<4) (hhe:hasB zs ((D/8%M:Nat):Int)=false) (hbt:(gt ys (D/8%M/32)).testBit (D/8%M%32)=true) :
  Calls Tryz.prog 11 #[.agg #[.int .u32 (a:Int),.int .i64 p,.slice A n c,.int .i64 (ns:Int),.int .i64 wo,.int .i64 qu,.int .i64 tr],.slice B m d,.int .u32 (D:Int)] w (RetD M zs ys m B w):=by
 have hM:=hC.much
 have hn9:=hC.few
 have hMp:=hM.pos
 have hM9:=hC.sml
 have hml:=hU.len
 have hyl:=hY.len
 have hm:=hM.most
 have hl3:=lv_le hm
 have ht3:=tv_le hm
 have hm6:m≤65536:=by omega
 have hm0:0<m:=by omega
 obtain ⟨q,hq⟩:∃ x,x=D/8:=⟨_,rfl⟩
 obtain ⟨r,hr⟩:∃ x,x=D%8:=⟨_,rfl⟩
 obtain ⟨o,ho⟩:∃ x,x=q%M:=⟨_,rfl⟩
 have hoM:o<M:=by rw [ho];exact Nat.mod_lt _ hMp
 have a1:(D:Int)/8=(q:Int):=by omega
 have a2:(D:Int).tdiv 8=(q:Int):=by rw [Int.tdiv_eq_ediv_of_nonneg (by omega)];omega
 have a3:(D:Int)%8=(r:Int):=by omega
 have a4:(D:Int).tmod 8=(r:Int):=by rw [Int.tmod_eq_emod_of_nonneg (by omega)];omega
 have a5:(q:Int)%(M:Int)=(o:Int):=by rw [ho];exact (Int.natCast_emod q M).symm
 have a6:(q:Int).tmod (M:Int)=(o:Int):=by rw [Int.tmod_eq_emod_of_nonneg (by omega)];exact a5
 have hM00:¬ ((M:Int)=0):=by omega
 have TMy:=fun w=>Lib.hid (rmany_yes (w:=w) hM)
 have c1:decide ((r:Int)<4)=true:=by simp;omega
 rw [← hq,← ho] at hhe hbt
 have THe:=fun w (h0:IS .i64 lo w A n c zs)=>Lib.hid (rheld_is (w:=w) (a:=a) (p:=p) (sh:=(ns:Int)) (wo:=wo) (qu:=qu) (tr:=tr) h0 (by omega) hhe)
 obtain ⟨i,hi⟩:∃ x,x=o/32:=⟨_,rfl⟩
 obtain ⟨b,hb⟩:∃ x,x=o%32:=⟨_,rfl⟩
 have b1:(o:Int)/32=(i:Int):=by omega
 have b2:(o:Int).tdiv 32=(i:Int):=by rw [Int.tdiv_eq_ediv_of_nonneg (by omega)];omega
 have b3:(o:Int)%32=(b:Int):=by omega
 have b4:(o:Int).tmod 32=(b:Int):=by rw [Int.tmod_eq_emod_of_nonneg (by omega)];omega
 have hil:i<lv M:=by unfold lv;omega
 have him:i<m:=by omega
 have him2:(i:Int)<(m:Int):=by omega
 have hb32:b<32:=by omega
 obtain ⟨bb,oo,hBe,hbb,hcc⟩:=hU.get him
 subst hBe
 obtain ⟨x,hx⟩:∃ x,x=gt ys i:=⟨_,rfl⟩
 have hx64:x<18446744073709551616:=by rw [hx];exact gt_lt hY.fit _
 rw [← hi,← hb,← hx] at hbt;rw [← hx] at hcc
 have hDR:DistR M zs ys (ys.set i (drp x b)):=.inl ⟨o,hoM,hhe,by rw [← hi,← hb,← hx];exact hbt,by rw [← hi,← hb,← hx]⟩
 have THb:=fun w=>Lib.hid (rhas_any x b hx64 (by omega) w)
 simp only [hbt] at THb
 have TCl:=fun w=>Lib.hid (rdrop_any x b hx64 (by omega) w)
 have hy64:(drp x b)<U64:=drp_lt _ _
 generalize (drp x b)=y at TCl hy64 hDR
 have TSe:∀ w,US w (some ⟨bb,oo,none⟩) m d ys→Hid (Calls Tryz.prog 34 #[.slice (some ⟨bb,oo,none⟩) m d,.int .i64 (i:Nat),.int .u64 (y:Nat)] w (RetSM m (ys.set i y) w)):=fun w U=>by have:=crset_new U (i:Int) hm6 hy64;rw [stI_nat] at this;exact this
 replace hDR:=Lib.hid hDR
 clear hbt hhe hx hi hb ho hq hr hlt hoM hil hY hyl hC
 go_enter Tryz.func11,Tryz.ntmps11
 go_upto_region 1 with (fail)
 have L:=Loc.start w
 replace L:=(L).alloc #[.int .u32 (a:Int),.int .i64 p,.slice A n c,.int .i64 (ns:Int),.int .i64 wo,.int .i64 qu,.int .i64 tr] 27
 try simp only [World.size_alloc] at L
 try dsimp only [nput] at L
 generalize (w).alloc (.cells #[.int .u32 (a:Int),.int .i64 p,.slice A n c,.int .i64 (ns:Int),.int .i64 wo,.int .i64 qu,.int .i64 tr] 27)=w1 at L ⊢
 generalize w.heap.size=gH at L ⊢
 have H_0:=L.at_ 0 0 rfl (v:=.int .u32 (a:Int)) rfl
 have H_1:=L.at_ 0 1 rfl (v:=.int .i64 p) rfl
 have H_z:=L.lt 0 rfl
 go_wp2_with fail
 refine ((TMy _).out).mono ?_
 rintro e w2 ⟨rfl,K'⟩
 clear H_0 H_1 H_z
 replace L:=L.over K'
 go_wp2_with (refine wpList_load_want (by rfl) 27 (.tmp 3) rfl gH rfl _ _ (0,0) _ (L.bk_ 0 rfl) Tryz.underlying27 rfl cf_sz ?_)
 refine ((THe _ (h0.below L.K)).out).mono ?_
 rintro e w3 ⟨rfl,K'⟩
 replace L:=L.over K'
 have X:=(L.K.cell (p:=⟨bb,oo+i,none⟩) hbb).trans hcc
 go_wp2_with fail
 refine ((THb _).out).mono ?_
 rintro e w' ⟨rfl,rfl⟩
 clear X
 go_wp2_with fail
 refine ((TCl _).out).mono ?_
 rintro e w' ⟨rfl,rfl⟩
 go_wp2_with fail
 have KS:=L.K.size
 refine ((TSe _ (hU.below L.K)).out).mono ?_
 rintro e w4 ⟨gS,dS,rfl,U,hgS,K'⟩
 have Lb:=L.lts
 replace L:=L.over K'
 replace L:=L.us_av (fun i b e b' o e'=>by injection e' with e';injection e' with e1;have:=Lb i b e;omega) U
 clear Lb
 try dsimp only [lF,List.cons_append,List.nil_append] at L
 clear U
 go_wp2
 go_ret
 exact retD_new (L.us_ 0 rfl) hDR.out (Nat.le_trans KS hgS) L.K
theorem dist_claim (hD:D<4294967296) (hC:Cg a p n zs (ns:Int) M ns) (h0:IS .i64 lo w A n c zs) (hY:YI M zs ys) (hU:US w B m d ys) (hlt:D%8<4) (hhe:hasB zs ((D/8%M:Nat):Int)=false) (hbt:(gt ys (D/8%M/32)).testBit (D/8%M%32)=false) :
  Calls Tryz.prog 11 #[.agg #[.int .u32 (a:Int),.int .i64 p,.slice A n c,.int .i64 (ns:Int),.int .i64 wo,.int .i64 qu,.int .i64 tr],.slice B m d,.int .u32 (D:Int)] w (RetD M zs ys m B w):=by
 have hM:=hC.much
 have hn9:=hC.few
 have hMp:=hM.pos
 have hM9:=hC.sml
 have hml:=hU.len
 have hyl:=hY.len
 have hm:=hM.most
 have hl3:=lv_le hm
 have ht3:=tv_le hm
 have hm6:m≤65536:=by omega
 have hm0:0<m:=by omega
 obtain ⟨q,hq⟩:∃ x,x=D/8:=⟨_,rfl⟩
 obtain ⟨r,hr⟩:∃ x,x=D%8:=⟨_,rfl⟩
 obtain ⟨o,ho⟩:∃ x,x=q%M:=⟨_,rfl⟩
 have hoM:o<M:=by rw [ho];exact Nat.mod_lt _ hMp
 have a1:(D:Int)/8=(q:Int):=by omega
 have a2:(D:Int).tdiv 8=(q:Int):=by rw [Int.tdiv_eq_ediv_of_nonneg (by omega)];omega
 have a3:(D:Int)%8=(r:Int):=by omega
 have a4:(D:Int).tmod 8=(r:Int):=by rw [Int.tmod_eq_emod_of_nonneg (by omega)];omega
 have a5:(q:Int)%(M:Int)=(o:Int):=by rw [ho];exact (Int.natCast_emod q M).symm
 have a6:(q:Int).tmod (M:Int)=(o:Int):=by rw [Int.tmod_eq_emod_of_nonneg (by omega)];exact a5
 have hM00:¬ ((M:Int)=0):=by omega
 have TMy:=fun w=>Lib.hid (rmany_yes (w:=w) hM)
 have c1:decide ((r:Int)<4)=true:=by simp;omega
 rw [← hq,← ho] at hhe hbt
 have THe:=fun w (h0:IS .i64 lo w A n c zs)=>Lib.hid (rheld_is (w:=w) (a:=a) (p:=p) (sh:=(ns:Int)) (wo:=wo) (qu:=qu) (tr:=tr) h0 (by omega) hhe)
 obtain ⟨i,hi⟩:∃ x,x=o/32:=⟨_,rfl⟩
 obtain ⟨b,hb⟩:∃ x,x=o%32:=⟨_,rfl⟩
 have b1:(o:Int)/32=(i:Int):=by omega
 have b2:(o:Int).tdiv 32=(i:Int):=by rw [Int.tdiv_eq_ediv_of_nonneg (by omega)];omega
 have b3:(o:Int)%32=(b:Int):=by omega
 have b4:(o:Int).tmod 32=(b:Int):=by rw [Int.tmod_eq_emod_of_nonneg (by omega)];omega
 have hil:i<lv M:=by unfold lv;omega
 have him:i<m:=by omega
 have him2:(i:Int)<(m:Int):=by omega
 have hb32:b<32:=by omega
 obtain ⟨bb,oo,hBe,hbb,hcc⟩:=hU.get him
 subst hBe
 obtain ⟨x,hx⟩:∃ x,x=gt ys i:=⟨_,rfl⟩
 have hx64:x<18446744073709551616:=by rw [hx];exact gt_lt hY.fit _
 rw [← hi,← hb,← hx] at hbt;rw [← hx] at hcc
 have hDR:DistR M zs ys (ys.set i (clm x b)):=.inr (.inl ⟨o,hoM,hhe,by rw [← hi,← hb,← hx];exact hbt,by rw [← hi,← hb,← hx]⟩)
 have THb:=fun w=>Lib.hid (rhas_any x b hx64 (by omega) w)
 simp only [hbt] at THb
 have TCl:=fun w=>Lib.hid (rclaim_any x b hx64 (by omega) w)
 have hy64:(clm x b)<U64:=clm_lt _ _
 generalize (clm x b)=y at TCl hy64 hDR
 have TSe:∀ w,US w (some ⟨bb,oo,none⟩) m d ys→Hid (Calls Tryz.prog 34 #[.slice (some ⟨bb,oo,none⟩) m d,.int .i64 (i:Nat),.int .u64 (y:Nat)] w (RetSM m (ys.set i y) w)):=fun w U=>by have:=crset_new U (i:Int) hm6 hy64;rw [stI_nat] at this;exact this
 replace hDR:=Lib.hid hDR
 clear hbt hhe hx hi hb ho hq hr hlt hoM hil hY hyl hC
 go_enter Tryz.func11,Tryz.ntmps11
 go_upto_region 1 with (fail)
 have L:=Loc.start w
 replace L:=(L).alloc #[.int .u32 (a:Int),.int .i64 p,.slice A n c,.int .i64 (ns:Int),.int .i64 wo,.int .i64 qu,.int .i64 tr] 27
 try simp only [World.size_alloc] at L
 try dsimp only [nput] at L
 generalize (w).alloc (.cells #[.int .u32 (a:Int),.int .i64 p,.slice A n c,.int .i64 (ns:Int),.int .i64 wo,.int .i64 qu,.int .i64 tr] 27)=w1 at L ⊢
 generalize w.heap.size=gH at L ⊢
 have H_0:=L.at_ 0 0 rfl (v:=.int .u32 (a:Int)) rfl
 have H_1:=L.at_ 0 1 rfl (v:=.int .i64 p) rfl
 have H_z:=L.lt 0 rfl
 go_wp2_with fail
 refine ((TMy _).out).mono ?_
 rintro e w2 ⟨rfl,K'⟩
 clear H_0 H_1 H_z
 replace L:=L.over K'
 go_wp2_with (refine wpList_load_want (by rfl) 27 (.tmp 3) rfl gH rfl _ _ (0,0) _ (L.bk_ 0 rfl) Tryz.underlying27 rfl cf_sz ?_)
 refine ((THe _ (h0.below L.K)).out).mono ?_
 rintro e w3 ⟨rfl,K'⟩
 replace L:=L.over K'
 have X:=(L.K.cell (p:=⟨bb,oo+i,none⟩) hbb).trans hcc
 go_wp2_with fail
 refine ((THb _).out).mono ?_
 rintro e w' ⟨rfl,rfl⟩
 clear X
 go_wp2_with fail
 refine ((TCl _).out).mono ?_
 rintro e w' ⟨rfl,rfl⟩
 go_wp2_with fail
 have KS:=L.K.size
 refine ((TSe _ (hU.below L.K)).out).mono ?_
 rintro e w4 ⟨gS,dS,rfl,U,hgS,K'⟩
 have Lb:=L.lts
 replace L:=L.over K'
 replace L:=L.us_av (fun i b e b' o e'=>by injection e' with e';injection e' with e1;have:=Lb i b e;omega) U
 clear Lb
 try dsimp only [lF,List.cons_append,List.nil_append] at L
 clear U
 go_wp2
 go_ret
 exact retD_new (L.us_ 0 rfl) hDR.out (Nat.le_trans KS hgS) L.K
theorem dist_held (hD:D<4294967296) (hC:Cg a p n zs (ns:Int) M ns) (h0:IS .i64 lo w A n c zs) (hY:YI M zs ys) (hU:US w B m d ys) (hlt:D%8<4) (hhe:hasB zs ((D/8%M:Nat):Int)=true) :
  Calls Tryz.prog 11 #[.agg #[.int .u32 (a:Int),.int .i64 p,.slice A n c,.int .i64 (ns:Int),.int .i64 wo,.int .i64 qu,.int .i64 tr],.slice B m d,.int .u32 (D:Int)] w (RetD M zs ys m B w):=by
 have hM:=hC.much
 have hn9:=hC.few
 have hMp:=hM.pos
 have hM9:=hC.sml
 have hml:=hU.len
 have hyl:=hY.len
 have hm:=hM.most
 have hl3:=lv_le hm
 have ht3:=tv_le hm
 have hm6:m≤65536:=by omega
 have hm0:0<m:=by omega
 obtain ⟨q,hq⟩:∃ x,x=D/8:=⟨_,rfl⟩
 obtain ⟨r,hr⟩:∃ x,x=D%8:=⟨_,rfl⟩
 obtain ⟨o,ho⟩:∃ x,x=q%M:=⟨_,rfl⟩
 have hoM:o<M:=by rw [ho];exact Nat.mod_lt _ hMp
 have a1:(D:Int)/8=(q:Int):=by omega
 have a2:(D:Int).tdiv 8=(q:Int):=by rw [Int.tdiv_eq_ediv_of_nonneg (by omega)];omega
 have a3:(D:Int)%8=(r:Int):=by omega
 have a4:(D:Int).tmod 8=(r:Int):=by rw [Int.tmod_eq_emod_of_nonneg (by omega)];omega
 have a5:(q:Int)%(M:Int)=(o:Int):=by rw [ho];exact (Int.natCast_emod q M).symm
 have a6:(q:Int).tmod (M:Int)=(o:Int):=by rw [Int.tmod_eq_emod_of_nonneg (by omega)];exact a5
 have hM00:¬ ((M:Int)=0):=by omega
 have TMy:=fun w=>Lib.hid (rmany_yes (w:=w) hM)
 have c1:decide ((r:Int)<4)=true:=by simp;omega
 rw [← hq,← ho] at hhe
 have THe:=fun w (h0:IS .i64 lo w A n c zs)=>Lib.hid (rheld_is (w:=w) (a:=a) (p:=p) (sh:=(ns:Int)) (wo:=wo) (qu:=qu) (tr:=tr) h0 (by omega) hhe)
 have c2:((r:Int) == 4)=false:=by simp;omega
 clear ho hq hr hlt hoM hY hC hyl hhe
 go_enter Tryz.func11,Tryz.ntmps11
 go_upto_region 1 with (fail)
 have L:=Loc.start w
 replace L:=(L).alloc #[.int .u32 (a:Int),.int .i64 p,.slice A n c,.int .i64 (ns:Int),.int .i64 wo,.int .i64 qu,.int .i64 tr] 27
 try simp only [World.size_alloc] at L
 try dsimp only [nput] at L
 generalize (w).alloc (.cells #[.int .u32 (a:Int),.int .i64 p,.slice A n c,.int .i64 (ns:Int),.int .i64 wo,.int .i64 qu,.int .i64 tr] 27)=w1 at L ⊢
 generalize w.heap.size=gH at L ⊢
 have H_0:=L.at_ 0 0 rfl (v:=.int .u32 (a:Int)) rfl
 have H_1:=L.at_ 0 1 rfl (v:=.int .i64 p) rfl
 have H_z:=L.lt 0 rfl
 go_wp2_with fail
 refine ((TMy _).out).mono ?_
 rintro e w2 ⟨rfl,K'⟩
 clear H_0 H_1 H_z
 replace L:=L.over K'
 go_wp2_with (refine wpList_load_want (by rfl) 27 (.tmp 3) rfl gH rfl _ _ (0,0) _ (L.bk_ 0 rfl) Tryz.underlying27 rfl cf_sz ?_)
 refine ((THe _ (h0.below L.K)).out).mono ?_
 rintro e w3 ⟨rfl,K'⟩
 replace L:=L.over K'
 go_wp2
 go_ret
 exact ⟨_,_,ys,rfl,hU.below L.K,.inr (.inr (.inr rfl)),fun k _ h=>h,L.K⟩
theorem dist_sum (hD:D<4294967296) (hC:Cg a p n zs (ns:Int) M ns) (h0:IS .i64 lo w A n c zs) (hY:YI M zs ys) (hU:US w B m d ys) (hlt:D%8=4) :
  Calls Tryz.prog 11 #[.agg #[.int .u32 (a:Int),.int .i64 p,.slice A n c,.int .i64 (ns:Int),.int .i64 wo,.int .i64 qu,.int .i64 tr],.slice B m d,.int .u32 (D:Int)] w (RetD M zs ys m B w):=by
 have hM:=hC.much
 have hn9:=hC.few
 have hMp:=hM.pos
 have hM9:=hC.sml
 have hml:=hU.len
 have hyl:=hY.len
 have hm:=hM.most
 have hl3:=lv_le hm
 have ht3:=tv_le hm
 have hm6:m≤65536:=by omega
 have hm0:0<m:=by omega
 obtain ⟨q,hq⟩:∃ x,x=D/8:=⟨_,rfl⟩
 obtain ⟨r,hr⟩:∃ x,x=D%8:=⟨_,rfl⟩
 obtain ⟨o,ho⟩:∃ x,x=q%M:=⟨_,rfl⟩
 have hoM:o<M:=by rw [ho];exact Nat.mod_lt _ hMp
 have a1:(D:Int)/8=(q:Int):=by omega
 have a2:(D:Int).tdiv 8=(q:Int):=by rw [Int.tdiv_eq_ediv_of_nonneg (by omega)];omega
 have a3:(D:Int)%8=(r:Int):=by omega
 have a4:(D:Int).tmod 8=(r:Int):=by rw [Int.tmod_eq_emod_of_nonneg (by omega)];omega
 have a5:(q:Int)%(M:Int)=(o:Int):=by rw [ho];exact (Int.natCast_emod q M).symm
 have a6:(q:Int).tmod (M:Int)=(o:Int):=by rw [Int.tmod_eq_emod_of_nonneg (by omega)];exact a5
 have hM00:¬ ((M:Int)=0):=by omega
 have TMy:=fun w=>Lib.hid (rmany_yes (w:=w) hM)
 have c1:decide ((r:Int)<4)=false:=by simp;omega
 have c2:((r:Int) == 4)=true:=by simp;omega
 have TLv:=fun w=>Lib.hid (rleaves_any M hm w)
 obtain ⟨LV,hLV⟩:∃ x,x=lv M:=⟨_,rfl⟩
 rw [← hLV] at TLv hyl
 obtain ⟨T1,hT1⟩:∃ x,x=tv M+1:=⟨_,rfl⟩
 have d1:(m:Int) - (LV:Int)=(T1:Int):=by omega
 have hT00:¬ ((T1:Int)=0):=by omega
 obtain ⟨z,hz⟩:∃ x,x=q%T1:=⟨_,rfl⟩
 have hzT:z<T1:=by rw [hz];exact Nat.mod_lt _ (by omega)
 have d2:(q:Int)%(T1:Int)=(z:Int):=by rw [hz];exact (Int.natCast_emod q T1).symm
 have d3:(q:Int).tmod (T1:Int)=(z:Int):=by rw [Int.tmod_eq_emod_of_nonneg (by omega)];exact d2
 obtain ⟨j,hj⟩:∃ x:Nat,(LV:Int)+(z:Int)=x:=⟨LV+z,by omega⟩
 have hj2:j=LV+z:=by omega
 obtain ⟨W1,hW1⟩:∃ x:Nat,(D:Int)*2654435761=(x:Int):=⟨D*2654435761,by omega⟩
 have f1:IntKind.u64.wrap (W1:Int)=(W1:Int):=IntWalk.u64_in _ (by omega)
 obtain ⟨W,hW,hW64⟩:∃ x:Nat,IntKind.u64.wrap ((W1:Int)*1099511628211)=(x:Int)∧x<U64:=wrap_mul W1 1099511628211
 have e5:IntKind.i64.wrap (j:Int)=(j:Int):=IntWalk.i64_in _ (by omega)
 have e6:IntKind.i64.wrap (T1:Int)=(T1:Int):=IntWalk.i64_in _ (by omega)
 have hDR:DistR M zs ys (ys.set j W):=.inr (.inr (.inl ⟨j,W,by omega,hW64,rfl⟩))
 have TSe:∀ w,US w B m d ys→Hid (Calls Tryz.prog 34 #[.slice B m d,.int .i64 (j:Nat),.int .u64 (W:Nat)] w (RetSM m (ys.set j W) w)):=fun w U=>by have:=crset_new U (j:Int) hm6 hW64;rw [stI_nat] at this;exact this
 replace hDR:=Lib.hid hDR
 clear hz hj2 hLV hT1 hzT
 clear ho hq hr hlt hoM hY hC hyl
 go_enter Tryz.func11,Tryz.ntmps11
 go_upto_region 1 with (fail)
 have L:=Loc.start w
 replace L:=(L).alloc #[.int .u32 (a:Int),.int .i64 p,.slice A n c,.int .i64 (ns:Int),.int .i64 wo,.int .i64 qu,.int .i64 tr] 27
 try simp only [World.size_alloc] at L
 try dsimp only [nput] at L
 generalize (w).alloc (.cells #[.int .u32 (a:Int),.int .i64 p,.slice A n c,.int .i64 (ns:Int),.int .i64 wo,.int .i64 qu,.int .i64 tr] 27)=w1 at L ⊢
 generalize w.heap.size=gH at L ⊢
 have H_0:=L.at_ 0 0 rfl (v:=.int .u32 (a:Int)) rfl
 have H_1:=L.at_ 0 1 rfl (v:=.int .i64 p) rfl
 have H_z:=L.lt 0 rfl
 go_wp2_with fail
 refine ((TMy _).out).mono ?_
 rintro e w2 ⟨rfl,K'⟩
 clear H_0 H_1 H_z
 replace L:=L.over K'
 go_wp2_with fail
 refine ((TLv _).out).mono ?_
 rintro e w' ⟨rfl,rfl⟩
 go_wp2_with fail
 have KS:=L.K.size
 refine ((TSe _ (hU.below L.K)).out).mono ?_
 rintro e w3 ⟨gS,dS,rfl,U,hgS,K'⟩
 have Lb:=L.lts
 replace L:=L.over K'
 replace L:=L.us_av (fun i b e b' o e'=>by injection e' with e';injection e' with e1;have:=Lb i b e;omega) U
 clear Lb
 try dsimp only [lF,List.cons_append,List.nil_append] at L
 clear U
 go_wp2
 go_ret
 exact retD_new (L.us_ 0 rfl) hDR.out (Nat.le_trans KS hgS) L.K
theorem dist_no (hD:D<4294967296) (hC:Cg a p n zs (ns:Int) M ns) (h0:IS .i64 lo w A n c zs) (hY:YI M zs ys) (hU:US w B m d ys) (hlt:4<D%8) :
  Calls Tryz.prog 11 #[.agg #[.int .u32 (a:Int),.int .i64 p,.slice A n c,.int .i64 (ns:Int),.int .i64 wo,.int .i64 qu,.int .i64 tr],.slice B m d,.int .u32 (D:Int)] w (RetD M zs ys m B w):=by
 have hM:=hC.much
 have hn9:=hC.few
 have hMp:=hM.pos
 have hM9:=hC.sml
 have hml:=hU.len
 have hyl:=hY.len
 have hm:=hM.most
 have hl3:=lv_le hm
 have ht3:=tv_le hm
 have hm6:m≤65536:=by omega
 have hm0:0<m:=by omega
 obtain ⟨q,hq⟩:∃ x,x=D/8:=⟨_,rfl⟩
 obtain ⟨r,hr⟩:∃ x,x=D%8:=⟨_,rfl⟩
 obtain ⟨o,ho⟩:∃ x,x=q%M:=⟨_,rfl⟩
 have hoM:o<M:=by rw [ho];exact Nat.mod_lt _ hMp
 have a1:(D:Int)/8=(q:Int):=by omega
 have a2:(D:Int).tdiv 8=(q:Int):=by rw [Int.tdiv_eq_ediv_of_nonneg (by omega)];omega
 have a3:(D:Int)%8=(r:Int):=by omega
 have a4:(D:Int).tmod 8=(r:Int):=by rw [Int.tmod_eq_emod_of_nonneg (by omega)];omega
 have a5:(q:Int)%(M:Int)=(o:Int):=by rw [ho];exact (Int.natCast_emod q M).symm
 have a6:(q:Int).tmod (M:Int)=(o:Int):=by rw [Int.tmod_eq_emod_of_nonneg (by omega)];exact a5
 have hM00:¬ ((M:Int)=0):=by omega
 have TMy:=fun w=>Lib.hid (rmany_yes (w:=w) hM)
 have c1:decide ((r:Int)<4)=false:=by simp;omega
 have c2:((r:Int) == 4)=false:=by simp;omega
 clear ho hq hr hlt hoM hY hC hyl
 go_enter Tryz.func11,Tryz.ntmps11
 go_upto_region 1 with (fail)
 have L:=Loc.start w
 replace L:=(L).alloc #[.int .u32 (a:Int),.int .i64 p,.slice A n c,.int .i64 (ns:Int),.int .i64 wo,.int .i64 qu,.int .i64 tr] 27
 try simp only [World.size_alloc] at L
 try dsimp only [nput] at L
 generalize (w).alloc (.cells #[.int .u32 (a:Int),.int .i64 p,.slice A n c,.int .i64 (ns:Int),.int .i64 wo,.int .i64 qu,.int .i64 tr] 27)=w1 at L ⊢
 generalize w.heap.size=gH at L ⊢
 have H_0:=L.at_ 0 0 rfl (v:=.int .u32 (a:Int)) rfl
 have H_1:=L.at_ 0 1 rfl (v:=.int .i64 p) rfl
 have H_z:=L.lt 0 rfl
 go_wp2_with fail
 refine ((TMy _).out).mono ?_
 rintro e w2 ⟨rfl,K'⟩
 clear H_0 H_1 H_z
 replace L:=L.over K'
 go_wp2
 go_ret
 exact ⟨_,_,ys,rfl,hU.below L.K,.inr (.inr (.inr rfl)),fun k _ h=>h,L.K⟩
theorem dist_any (hD:D<4294967296) (hC:Cg a p n zs (ns:Int) M ns) (h0:IS .i64 lo w A n c zs) (hY:YI M zs ys) (hU:US w B m d ys) :
  Calls Tryz.prog 11 #[.agg #[.int .u32 (a:Int),.int .i64 p,.slice A n c,.int .i64 (ns:Int),.int .i64 wo,.int .i64 qu,.int .i64 tr],.slice B m d,.int .u32 (D:Int)] w (RetD M zs ys m B w):=by
 by_cases h4:D%8<4
 ·cases hhe:hasB zs ((D/8%M:Nat):Int) with
  | true=>exact dist_held hD hC h0 hY hU h4 hhe
  | false =>
   cases hbt:(gt ys (D/8%M/32)).testBit (D/8%M%32) with
   | true=>exact dist_drop hD hC h0 hY hU h4 hhe hbt
   | false=>exact dist_claim hD hC h0 hY hU h4 hhe hbt
 ·by_cases h5:D%8=4
  ·exact dist_sum hD hC h0 hY hU h5
  ·exact dist_no hD hC h0 hY hU (by omega)
end
end Go.Proofs.YtfhefofkhmkcnaaGreatDoor

/-
 A map of closures made by the call that hold two blocks of its own;what a look-up tells;what grant.phases answers. No condition on the program.
-/
namespace Go.Proofs.YtfhefofkhmkcnaaGreatDoor
set_option maxRecDepth 100000
set_option maxRecDepth 100000
set_option maxRecDepth 100000
open Go.RowKit
set_option maxHeartbeats 8000000
set_option linter.unusedVariables false
/-- A closure that holds two blocks. -/
def cloV (k x y:Nat):Value:=.func (.func k) #[] #[.pointer (some ⟨x,0,none⟩),.pointer (some ⟨y,0,none⟩)]
def twoP:Array Value→Option (Nat×Nat)
 | ⟨[.pointer (some ⟨x,0,none⟩),.pointer (some ⟨y,0,none⟩)]⟩=>some (x,y)
 | _=>none
theorem twoP_inv {a:Array Value} {x y:Nat} (h:twoP a=some (x,y)):a=#[.pointer (some ⟨x,0,none⟩),.pointer (some ⟨y,0,none⟩)]:=by
 unfold twoP at h
 split at h
 ·injection h with h;injection h with h1 h2;subst h1;subst h2;rfl
 ·cases h
/-- How a closure's value reads: by its function's number, if it holds what that function's closures hold. -/
def cElem (cap:Nat→Nat×Nat):Value→Option (DataW Unit×List MemPlace)
 | .func (.func k) a b=>if a.size=0∧twoP b=some (cap k) then some (.lit (.int .u64 (k:Nat)),[]) else none
 | .nilFunc=>some (.lit (.bool false),[])
 | _=>none
section
variable {cap:Nat→Nat×Nat} {w w0:World} {gm lo:Nat} {l:List (Int×Nat)} {bs:List Bl} {fs:List Fct} {mt et:TypeId} {k:Int}
theorem cElem_mk (f x y:Nat) (hc:cap f=(x,y)):cElem cap (cloV f x y)=some (.lit (.int .u64 (f:Nat)),[]):=by
 unfold cElem cloV
 dsimp only
 rw [if_pos ⟨rfl,by rw [hc];rfl⟩]
theorem cElem_inv {v:Value} {f:Nat} {ps:List MemPlace} (h:cElem cap v=some (.lit (.int .u64 (f:Nat)),ps)):v=cloV f (cap f).1 (cap f).2:=by
 unfold cElem at h
 split at h
 ·split at h
  ·rename_i g
   simp only [Option.some.injEq,Prod.mk.injEq,DataW.lit.injEq,Lit.int.injEq,true_and] at h
   obtain ⟨h1,_⟩:=h
   have h2:=Array.eq_empty_of_size_eq_zero g.1
   have h4:_=f:=Int.ofNat.inj h1
   subst h2 h4
   unfold cloV
   rw [twoP_inv g.2]
  ·cases h
 ·simp at h
 ·cases h
theorem cElem_no {v:Value} {ps:List MemPlace} (h:cElem cap v=some (.lit (.bool false),ps)):v=.nilFunc:=by
 unfold cElem at h
 split at h
 ·split at h
  ·simp at h
  ·cases h
 ·rfl
 ·cases h
def CMap (cap:Nat→Nat×Nat) (w:World) (gm:Nat) (l:List (Int×Nat)):Prop:=w.ownsMap Tryz.prog 3 (cElem cap) gm l.length (fD l)
def cF (cap:Nat→Nat×Nat) (gm:Nat) (l:List (Int×Nat)):Fct:=⟨fun w=>CMap cap w gm l,fun b=>b=gm⟩
theorem cF_ok:(cF cap gm l).Ok :=
 ⟨fun w w' h hs hk=>by
  have hlt:=World.ownsMap.lt h
  obtain ⟨es,clock,hb,F,hs',hD⟩:=h
  exact ⟨es,clock,(hk gm hlt rfl).trans hb,F,hs',hD⟩,fun w b h e=>by subst e;exact World.ownsMap.lt h⟩
theorem Loc.cmap (L:Loc w0 w bs fs) (hl:∀ i b,nth bs i=some b→b.1<lo) (hg:lo≤gm) (h:CMap cap w gm l):Loc w0 w bs (cF cap gm l :: fs) :=
 L.add _ h cF_ok fun i b e e'=>by have:=hl i b e;have:b.1=gm:=e';omega
theorem fD_atno {k:Int}:∀ {l:List (Int×Nat)},fget l k=none→(fD l).atKey (.int .i64 k) (.lit (.bool false))=.lit (.bool false)
 | [],_=>rfl
 | p :: l,h=>by
  unfold fget at h
  by_cases e:p.1=k
  ·rw [if_pos e] at h;cases h
  ·rw [if_neg e] at h
   have hne:(Lit.int .i64 k)≠(Lit.int .i64 p.1):=fun h=>e (by injection h with _ h;exact h.symm)
   unfold fD
   rw [Maps.atKey_put_other hne]
   exact fD_atno h
theorem CMap.look (h:CMap cap w gm l) (ht:Tryz.prog.underlying mt=some (.map 3 et)) (hz:(zeroValue et).run Tryz.prog w=.ok .nilFunc w) {f:Nat} (hk:(Lit.int .i64 k).wf=true) (e:fget l k=some f) :
  (Instr.lookup mt (.map (some gm)) (.int .i64 k) true).run Tryz.prog w=.ok (.tuple #[cloV f (cap f).1 (cap f).2,.bool true]) w:=by
 obtain ⟨v,ps,hrun,hv⟩:=World.ownsMap.look_ok h ikey_law ht hz (zd:=.lit (.bool false)) (zp:=[]) rfl (ikey hk)
 rw [(fD_at hk e).1] at hv
 rw [hrun,cElem_inv hv,(fD_at hk e).2]
theorem CMap.none (h:CMap cap w gm l) (ht:Tryz.prog.underlying mt=some (.map 3 et)) (hz:(zeroValue et).run Tryz.prog w=.ok .nilFunc w) (hk:(Lit.int .i64 k).wf=true) (e:fget l k=none) :
  (Instr.lookup mt (.map (some gm)) (.int .i64 k) true).run Tryz.prog w=.ok (.tuple #[.nilFunc,.bool false]) w:=by
 obtain ⟨v,ps,hrun,hv⟩:=World.ownsMap.look_ok h ikey_law ht hz (zd:=.lit (.bool false)) (zp:=[]) rfl (ikey hk)
 rw [fD_atno e] at hv
 rw [hrun,cElem_no hv,fD_no e]
theorem CMap.put (h:CMap cap w gm l) (ht:Tryz.prog.underlying mt=some (.map 3 et)) (hn:l.length<64) (k:Int) (f x y:Nat) (hc:cap f=(x,y)) (hk:(Lit.int .i64 k).wf=true) :
  ∃ w',(Instr.mapUpdate mt (.map (some gm)) (.int .i64 k) (cloV f x y)).run Tryz.prog w=.ok () w'∧CMap cap w' gm ((k,f) :: l)∧w.grownBy w' (some gm) :=
 World.ownsMap.update h ikey_law ht (by unfold maxLen;omega) (ikey hk) (cElem_mk f x y hc)
end
theorem gph_z (w:World):(zeroValue 139).run Tryz.prog w=.ok .nilFunc w:=by kernel_rfl
abbrev gph_l:List (Int×Nat):=[(5,121),(4,121),(7,119),(6,119),(3,117),(2,117),(1,115)]
/-- What the closures of a step hold: the cells and the configuration; the configuration and the cells. -/
def gcap (gC gL:Nat) (k:Nat):Nat×Nat:=if k=115 then (gL,gC) else (gC,gL)
theorem gph_any {a:Nat} {p wo qu tr:Int} {A:Option Addr} {n c ns:Nat} (B:Option Addr) (m d:Nat) (w:World) :
  Calls Tryz.prog 114 #[.agg #[.int .u32 (a:Int),.int .i64 p,.slice A n c,.int .i64 (ns:Int),.int .i64 wo,.int .i64 qu,.int .i64 tr],.slice B m d] w fun e w'=>∃ gm gC gK,e=.returned (.map (some gm))∧CMap (gcap gC gK) w' gm gph_l∧Bk w' gC 27 #[.int .u32 (a:Int),.int .i64 p,.slice A n c,.int .i64 (ns:Int),.int .i64 wo,.int .i64 qu,.int .i64 tr]∧Bk w' gK 34 #[.slice B m d]∧(w.heap.size≤gm∧w.heap.size≤gC∧w.heap.size≤gK)∧Below w.heap.size w w':=by
 go_enter Tryz.func114,Tryz.ntmps114
 go_upto_region 1 with (fail)
 have L:=Loc.start w
 replace L:=((L).alloc #[.int .u32 (a:Int),.int .i64 p,.slice A n c,.int .i64 (ns:Int),.int .i64 wo,.int .i64 qu,.int .i64 tr] 27).alloc #[.slice B m d] 34
 try simp only [World.size_alloc] at L
 try dsimp only [nput] at L
 generalize ((w).alloc (.cells #[.int .u32 (a:Int),.int .i64 p,.slice A n c,.int .i64 (ns:Int),.int .i64 wo,.int .i64 qu,.int .i64 tr] 27)).alloc (.cells #[.slice B m d] 34)=w1 at L ⊢
 generalize w.heap.size+1=gK at L ⊢
 generalize w.heap.size=gC at L ⊢
 have KB:=L.K
 have BC:=L.bk_ 1 rfl
 have BK:=L.bk_ 0 rfl
 have hCK:=L.ges
 have gC0:w.heap.size≤gC:=hCK 1 _ rfl
 have gK0:w.heap.size≤gK:=hCK 0 _ rfl
 clear hCK
 have hmm:=@run_makeMap Tryz.prog
 have O0:CMap (gcap gC gK) (w1.alloc (.map #[] 0)) w1.heap.size []:=World.ownsMap_made w1 Tryz.prog 3 (cElem (gcap gC gK))
 have K0:=below_alloc w1 (.map #[] 0)
 have c1:gcap gC gK 115 = (gK,gC):=rfl
 have c2:gcap gC gK 117 = (gC,gK):=rfl
 have c3:gcap gC gK 119 = (gC,gK):=rfl
 have c4:gcap gC gK 121 = (gC,gK):=rfl
 obtain ⟨u1,H1,O1,G1⟩:=O0.put Tryz.underlying141 (by decide) 1 115 gK gC c1 (by decide)
 obtain ⟨u2,H2,O2,G2⟩:=O1.put Tryz.underlying141 (by decide) 2 117 gC gK c2 (by decide)
 obtain ⟨u3,H3,O3,G3⟩:=O2.put Tryz.underlying141 (by decide) 3 117 gC gK c2 (by decide)
 obtain ⟨u4,H4,O4,G4⟩:=O3.put Tryz.underlying141 (by decide) 6 119 gC gK c3 (by decide)
 obtain ⟨u5,H5,O5,G5⟩:=O4.put Tryz.underlying141 (by decide) 7 119 gC gK c3 (by decide)
 obtain ⟨u6,H6,O6,G6⟩:=O5.put Tryz.underlying141 (by decide) 4 121 gC gK c4 (by decide)
 obtain ⟨u7,H7,O7,G7⟩:=O6.put Tryz.underlying141 (by decide) 5 121 gC gK c4 (by decide)
 simp only [cloV] at H1 H2 H3 H4 H5 H6 H7
 go_wp2
 have K1:=K0.grown G1 (Nat.le_trans (Nat.le_refl _) K0.size) (by intro j hj;injection hj with hj;omega)
 have K2:=K1.grown G2 (Nat.le_trans (Nat.le_refl _) K1.size) (by intro j hj;injection hj with hj;omega)
 have K3:=K2.grown G3 (Nat.le_trans (Nat.le_refl _) K2.size) (by intro j hj;injection hj with hj;omega)
 have K4:=K3.grown G4 (Nat.le_trans (Nat.le_refl _) K3.size) (by intro j hj;injection hj with hj;omega)
 have K5:=K4.grown G5 (Nat.le_trans (Nat.le_refl _) K4.size) (by intro j hj;injection hj with hj;omega)
 have K6:=K5.grown G6 (Nat.le_trans (Nat.le_refl _) K5.size) (by intro j hj;injection hj with hj;omega)
 have K7:=K6.grown G7 (Nat.le_trans (Nat.le_refl _) K6.size) (by intro j hj;injection hj with hj;omega)
 go_ret
 exact ⟨_,_,_,rfl,O7,BC.below K7,BK.below K7,⟨KB.size,gC0,gK0⟩,Below.then_ KB K7⟩
end Go.Proofs.YtfhefofkhmkcnaaGreatDoor

/-
 What the closures of grant.Step answer of a grant where it may be. Conditions: a block that may be;the two blocks that they hold.
-/
namespace Go.Proofs.YtfhefofkhmkcnaaGreatDoor
set_option maxRecDepth 100000
set_option maxRecDepth 100000
set_option maxRecDepth 100000
open Go.RowKit
set_option maxHeartbeats 8000000
set_option linter.unusedVariables false
section
variable {rq:List Int}
variable {w w1:World} {lo a m d D M ns N kC kK:Nat} {p sh wo qu tr:Int} {A B:Option Addr} {n c:Nat} {zs:List Int} {sn ys:List Nat} {h:Hd} {s:Sc}
theorem gcl_seek (ha:a<4294967296) (hM:Much a p M) (h1:1≤ns) (h2:ns≤64) (hN:N≤60000) (hq:rq.length≤65536) (hG:GI M ns zs N s sn) (hY:YI M zs ys) (hU:US w B m d ys) (hL:Lists lo w h (gr rq sn)) (hBC:Bk w kC 27 #[.int .u32 (a:Int),.int .i64 p,.slice A n c,.int .i64 (ns:Int),.int .i64 wo,.int .i64 qu,.int .i64 tr]) (hBK:Bk w kK 34 #[.slice B m d]) (hph:s.phase=1) :
  Calls Tryz.prog 115 #[.agg (opv h s),.pointer (some ⟨kK,0,none⟩),.pointer (some ⟨kC,0,none⟩)] w (RetG (gS a M ns ys s sn) (gr rq (gN M ys s sn)) m (gC M ys s) (gB M ys s sn) B w):=by
 have hm0:0<m:=by have:=hU.len;have:=hY.len;omega
 obtain ⟨s2,hs2⟩:∃ s2,s2=gS a M ns ys s sn:=⟨_,rfl⟩
 obtain ⟨l2,hl2⟩:∃ l2,l2=gr rq (gN M ys s sn):=⟨_,rfl⟩
 obtain ⟨y2,hy2⟩:∃ y2,y2=gC M ys s:=⟨_,rfl⟩
 obtain ⟨b2,hb2⟩:∃ b2,b2=gB M ys s sn:=⟨_,rfl⟩
 have TK:=fun w lo h (U:US w B m d ys) (L:Lists lo w h (gr rq sn))=>Lib.hid (gp_seek (w:=w) (lo:=lo) (h:=h) (s:=s) (wo:=wo) (qu:=qu) (tr:=tr) (A:=A) (n:=n) (c:=c) ha hM h1 h2 hq hG hY U L hph)
 simp only [← hs2,← hl2,← hy2,← hb2] at TK ⊢
 clear hG hY hs2 hl2 ha hM
 rw [show y2=ys from hy2.trans (gp_quiet (.inl hph)),show b2=false from hb2.trans (gp_calm (.inl hph))]
 clear hy2 hb2
 go_enter Tryz.func115,Tryz.ntmps115
 go_upto_region 1 with (fail)
 have L:=Loc.start w
 generalize hal:World.alloc _ _=w1
 replace L:=L.a2 hal
 clear hal
 replace L:=L.is0 (opv hd0 sc0) rfl
 generalize w.heap.size+1=gR at L ⊢
 generalize w.heap.size=gO at L ⊢
 replace L:=L.drew
 refine wp_region_held_drew (S:=fun w'=>∃ v_R:Array Value,v_R.size=20∧Loc w w' [(gR,43,v_R),(gO,43,opv h s)] []) (by kernel_rfl) (⟨_,rfl,L⟩) (fun hHeld=>?_)
 generalize w1.drew=v2 at hHeld L ⊢
 refine ty 0 7 (.slice B m d) rfl ?_ hHeld ?_
 ·intro ww hS
  try dsimp only at hS
  have K_0:=(hBK.below (hS.choose_spec.2).K).at_ 0 (v:=.slice B m d) rfl
  have K_z:=(hBK.below (hS.choose_spec.2).K).lt
  go_simp
  try with_reducible rfl
  try omega
 refine tl 1 8 (.agg (#[.int .u32 (a:Int),.int .i64 p,.slice A n c,.int .i64 (ns:Int),.int .i64 wo,.int .i64 qu,.int .i64 tr])) rfl (yieldsIf_load_row (by rfl) 27 (.tmp 2) rfl kC rfl 27 _ (0,0) _ (fun _ hS=>(hBC.below (hS.choose_spec.2).K)) Tryz.underlying27 rfl cf_sz) hHeld ?_
 refine ty 2 9 (.slice B m d) rfl ?_ hHeld ?_
 ·intro ww hS
  try dsimp only at hS
  have K_0:=(hBK.below (hS.choose_spec.2).K).at_ 0 (v:=.slice B m d) rfl
  have K_z:=(hBK.below (hS.choose_spec.2).K).lt
  go_simp
  try with_reducible rfl
  try omega
 refine tl 3 10 (.agg (opv h s)) rfl (yieldsIf_load_row (by rfl) 43 (.tmp 3) rfl gO rfl 43 _ (0,0) _ (fun _ hS=>((hS.choose_spec.2).bk_ 1 rfl)) Tryz.underlying43 rfl op_sz) hHeld ?_
 refine rd 4 11 rfl fun K0 hK=>?_
 have KS:=L.K.size
 go_simp
 refine ((TK _ _ _ (hU.below L.K) (hL.below L.K)).out).mono ?_
 rintro e w3 ⟨h3,rfl,L',K'⟩
 have Lb:=L.lts
 replace L:=L.over K'
 replace L:=L.lists Lb L'
 clear Lb
 try dsimp only [lF,List.cons_append,List.nil_append] at L
 clear L'
 refine hK.out _ _ ⟨_,rfl,(L.less 4)⟩ ?_
 clear hHeld hK K0
 intro hHeld
 clear K'
 try simp only [Act.put,sA,sZ,sS]
 refine tg 5 4 (.slice B m d) rfl hHeld ?_
 refine rn 6 rfl fun K0 hK=>?_
 rw [if_pos (by rfl)]
 refine wp_store_row 43 (.tmp 5) (.tmp 11) rfl gR _ rfl rfl _ _ (L.bk_ 0 rfl) op_sz rfl (opv_one _ _) ?_
 replace L:=L.row 0 rfl (opv h3 s2)
 try dsimp only [nput] at L
 refine hK.out _ _ ⟨_,rfl,(L.less 4)⟩ ?_
 clear hHeld hK K0
 intro hHeld
 generalize w3.setRow gR (opv h3 s2)=v4 at hHeld L ⊢
 try simp only [Act.put]
 refine tg 7 6 (.bool false) rfl hHeld ?_
 refine wpAnyH_done (by kernel_rfl) ?_ _
 clear hHeld
 go_wp2
 refine eTCT Tryz.results115 (.slice B m d) (.bool false) (L.bk_ 0 rfl) ?_
 exact ⟨_,_,_,rfl,hU.below L.K,(L.lists_at 0 rfl).lower_ KS,fun k _ h=>h,L.K⟩
theorem gcl_claim (ha:a<4294967296) (hM:Much a p M) (h1:1≤ns) (h2:ns≤64) (hN:N≤60000) (hq:rq.length≤65536) (hG:GI M ns zs N s sn) (hY:YI M zs ys) (hU:US w B m d ys) (hL:Lists lo w h (gr rq sn)) (hBC:Bk w kC 27 #[.int .u32 (a:Int),.int .i64 p,.slice A n c,.int .i64 (ns:Int),.int .i64 wo,.int .i64 qu,.int .i64 tr]) (hBK:Bk w kK 34 #[.slice B m d]) (hph:s.phase=2∨s.phase=3) :
  Calls Tryz.prog 117 #[.agg (opv h s),.pointer (some ⟨kC,0,none⟩),.pointer (some ⟨kK,0,none⟩)] w (RetG (gS a M ns ys s sn) (gr rq (gN M ys s sn)) m (gC M ys s) (gB M ys s sn) B w):=by
 have hm0:0<m:=by have:=hU.len;have:=hY.len;omega
 obtain ⟨s2,hs2⟩:∃ s2,s2=gS a M ns ys s sn:=⟨_,rfl⟩
 obtain ⟨l2,hl2⟩:∃ l2,l2=gr rq (gN M ys s sn):=⟨_,rfl⟩
 obtain ⟨y2,hy2⟩:∃ y2,y2=gC M ys s:=⟨_,rfl⟩
 obtain ⟨b2,hb2⟩:∃ b2,b2=gB M ys s sn:=⟨_,rfl⟩
 have TK:=fun w lo h (U:US w B m d ys) (L:Lists lo w h (gr rq sn))=>Lib.hid (gp_claim (w:=w) (lo:=lo) (h:=h) (s:=s) (wo:=wo) (qu:=qu) (tr:=tr) (A:=A) (n:=n) (c:=c) ha hM h1 h2 hN hq hG hY U L hph)
 simp only [← hs2,← hl2,← hy2,← hb2] at TK ⊢
 clear hG hY hs2 hl2 ha hM
 clear hy2 hb2
 go_enter Tryz.func117,Tryz.ntmps117
 go_upto_region 1 with (fail)
 have L:=Loc.start w
 generalize hal:World.alloc _ _=w1
 replace L:=L.a2 hal
 clear hal
 replace L:=L.is0 (opv hd0 sc0) rfl
 generalize w.heap.size+1=gR at L ⊢
 generalize w.heap.size=gO at L ⊢
 have K_0:=(hBK.below L.K).at_ 0 (v:=.slice B m d) rfl
 have K_z:=(hBK.below L.K).lt
 go_wp2_with (first | (refine lC 1 (hBC.below L.K) ?_) | (refine lO 3 (L.bk_ 1 rfl) ?_))
 have KS:=L.K.size
 refine ((TK _ _ _ (hU.below L.K) (hL.below L.K)).out).mono ?_
 rintro e w2 ⟨h3,B2,d2,rfl,U,L',hA,K'⟩
 clear K_0 K_z
 have Lb:=L.lts
 replace L:=L.over K'
 replace L:=L.us_av (fun i b e=>hA b.1 (Lb i b e) (hU.apart0 hm0 L i b e)) U
 replace L:=L.lists Lb L'
 clear Lb
 try dsimp only [lF,List.cons_append,List.nil_append] at L
 clear L' U
 go_wp2_with (refine sO 5 12 (L.bk_ 0 rfl) rfl rfl ?_)
 generalize hal:World.setRow _ _ _=w3
 replace L:=L.rr0 hal
 clear hal
 refine eTCT Tryz.results117 (.slice B2 m d2) (.bool b2) (L.bk_ 0 rfl) ?_
 exact ⟨_,_,_,rfl,L.us_ 4 rfl,(L.lists_at 0 rfl).lower_ KS,fun k hk=>hA k (Nat.lt_of_lt_of_le hk KS),L.K⟩
theorem gcl_sweep (ha:a<4294967296) (hM:Much a p M) (h1:1≤ns) (h2:ns≤64) (hN:N≤60000) (hq:rq.length≤65536) (hG:GI M ns zs N s sn) (hY:YI M zs ys) (hU:US w B m d ys) (hL:Lists lo w h (gr rq sn)) (hBC:Bk w kC 27 #[.int .u32 (a:Int),.int .i64 p,.slice A n c,.int .i64 (ns:Int),.int .i64 wo,.int .i64 qu,.int .i64 tr]) (hBK:Bk w kK 34 #[.slice B m d]) (hph:s.phase=6∨s.phase=7) :
  Calls Tryz.prog 119 #[.agg (opv h s),.pointer (some ⟨kC,0,none⟩),.pointer (some ⟨kK,0,none⟩)] w (RetG (gS a M ns ys s sn) (gr rq (gN M ys s sn)) m (gC M ys s) (gB M ys s sn) B w):=by
 have hm0:0<m:=by have:=hU.len;have:=hY.len;omega
 obtain ⟨s2,hs2⟩:∃ s2,s2=gS a M ns ys s sn:=⟨_,rfl⟩
 obtain ⟨l2,hl2⟩:∃ l2,l2=gr rq (gN M ys s sn):=⟨_,rfl⟩
 obtain ⟨y2,hy2⟩:∃ y2,y2=gC M ys s:=⟨_,rfl⟩
 obtain ⟨b2,hb2⟩:∃ b2,b2=gB M ys s sn:=⟨_,rfl⟩
 have TK:=fun w lo h (U:US w B m d ys) (L:Lists lo w h (gr rq sn))=>Lib.hid (gp_sweep (w:=w) (lo:=lo) (h:=h) (s:=s) (wo:=wo) (qu:=qu) (tr:=tr) (A:=A) (n:=n) (c:=c) ha hM hq hG hY U L hph)
 simp only [← hs2,← hl2,← hy2,← hb2] at TK ⊢
 clear hG hY hs2 hl2 ha hM
 rw [show y2=ys from hy2.trans (gp_quiet (.inr hph))]
 clear hy2 hb2
 go_enter Tryz.func119,Tryz.ntmps119
 go_upto_region 1 with (fail)
 have L:=Loc.start w
 generalize hal:World.alloc _ _=w1
 replace L:=L.a2 hal
 clear hal
 replace L:=L.is0 (opv hd0 sc0) rfl
 generalize w.heap.size+1=gR at L ⊢
 generalize w.heap.size=gO at L ⊢
 have K_0:=(hBK.below L.K).at_ 0 (v:=.slice B m d) rfl
 have K_z:=(hBK.below L.K).lt
 go_wp2_with (first | (refine lC 1 (hBC.below L.K) ?_) | (refine lO 3 (L.bk_ 1 rfl) ?_))
 have KS:=L.K.size
 refine ((TK _ _ _ (hU.below L.K) (hL.below L.K)).out).mono ?_
 rintro e w2 ⟨h3,rfl,L',K'⟩
 clear K_0 K_z
 have Lb:=L.lts
 replace L:=L.over K'
 replace L:=L.lists Lb L'
 clear Lb
 try dsimp only [lF,List.cons_append,List.nil_append] at L
 clear L'
 go_upto_region 2 with (refine sO 3 13 (L.bk_ 1 rfl) rfl rfl ?_)
 generalize hal:World.setRow _ _ _=w3
 replace L:=L.rr1 hal
 clear hal
 replace L:=L.drew
 refine wp_region_held_drew (S:=fun w'=>∃ v_R:Array Value,v_R.size=20∧Loc w w' [(gR,43,v_R),(gO,43,opv h3 s2)] [iF .u32 w1.heap.size h3.A0 h3.n0 h3.c0 l2.rqs,iF .u32 w1.heap.size h3.A1 h3.n1 h3.c1 l2.ads,iF .i64 w1.heap.size h3.A2 h3.n2 h3.c2 l2.ers,iF .u64 w1.heap.size h3.A3 h3.n3 h3.c3 l2.ses]) (by kernel_rfl) (⟨_,rfl,L⟩) (fun hHeld=>?_)
 generalize w3.drew=v4 at hHeld L ⊢
 refine ty 0 15 (.slice B m d) rfl ?_ hHeld ?_
 ·intro ww hS
  try dsimp only at hS
  have K_0:=(hBK.below (hS.choose_spec.2).K).at_ 0 (v:=.slice B m d) rfl
  have K_z:=(hBK.below (hS.choose_spec.2).K).lt
  go_simp
  try with_reducible rfl
  try omega
 refine tl 1 16 (.agg (opv h3 s2)) rfl (yieldsIf_load_row (by rfl) 43 (.tmp 3) rfl gO rfl 43 _ (0,0) _ (fun _ hS=>((hS.choose_spec.2).bk_ 1 rfl)) Tryz.underlying43 rfl op_sz) hHeld ?_
 refine tg 2 17 (.bool b2) rfl hHeld ?_
 refine tg 3 4 (.slice B m d) rfl hHeld ?_
 refine rn 4 rfl fun K0 hK=>?_
 rw [if_pos (by rfl)]
 refine wp_store_row 43 (.tmp 5) (.tmp 16) rfl gR _ rfl rfl _ _ (L.bk_ 0 rfl) op_sz rfl (opv_one _ _) ?_
 replace L:=L.row 0 rfl (opv h3 s2)
 try dsimp only [nput] at L
 refine hK.out _ _ ⟨_,rfl,L⟩ ?_
 clear hHeld hK K0
 intro hHeld
 generalize v4.setRow gR (opv h3 s2)=v5 at hHeld L ⊢
 try simp only [Act.put]
 refine tg 5 6 (.bool b2) rfl hHeld ?_
 refine wpAnyH_done (by kernel_rfl) ?_ _
 clear hHeld
 go_wp2
 refine eTCT Tryz.results119 (.slice B m d) (.bool b2) (L.bk_ 0 rfl) ?_
 exact ⟨_,_,_,rfl,hU.below L.K,(L.lists_at 0 rfl).lower_ KS,fun k _ h=>h,L.K⟩
theorem gcl_mark (ha:a<4294967296) (hM:Much a p M) (h1:1≤ns) (h2:ns≤64) (hN:N≤60000) (hq:rq.length≤65536) (hG:GI M ns zs N s sn) (hY:YI M zs ys) (hU:US w B m d ys) (hL:Lists lo w h (gr rq sn)) (hBC:Bk w kC 27 #[.int .u32 (a:Int),.int .i64 p,.slice A n c,.int .i64 (ns:Int),.int .i64 wo,.int .i64 qu,.int .i64 tr]) (hBK:Bk w kK 34 #[.slice B m d]) (hph:s.phase=4∨s.phase=5) :
  Calls Tryz.prog 121 #[.agg (opv h s),.pointer (some ⟨kC,0,none⟩),.pointer (some ⟨kK,0,none⟩)] w (RetG (gS a M ns ys s sn) (gr rq (gN M ys s sn)) m (gC M ys s) (gB M ys s sn) B w):=by
 have hm0:0<m:=by have:=hU.len;have:=hY.len;omega
 obtain ⟨s2,hs2⟩:∃ s2,s2=gS a M ns ys s sn:=⟨_,rfl⟩
 obtain ⟨l2,hl2⟩:∃ l2,l2=gr rq (gN M ys s sn):=⟨_,rfl⟩
 obtain ⟨y2,hy2⟩:∃ y2,y2=gC M ys s:=⟨_,rfl⟩
 obtain ⟨b2,hb2⟩:∃ b2,b2=gB M ys s sn:=⟨_,rfl⟩
 have TK:=fun w lo h (U:US w B m d ys) (L:Lists lo w h (gr rq sn))=>Lib.hid (gp_mark (w:=w) (lo:=lo) (h:=h) (s:=s) (wo:=wo) (qu:=qu) (tr:=tr) (A:=A) (n:=n) (c:=c) ha hM hq hG hY U L hph)
 simp only [← hs2,← hl2,← hy2,← hb2] at TK ⊢
 clear hG hY hs2 hl2 ha hM
 rw [show b2=false from hb2.trans (gp_calm (.inr hph))]
 clear hy2 hb2
 go_enter Tryz.func121,Tryz.ntmps121
 go_upto_region 1 with (fail)
 have L:=Loc.start w
 generalize hal:World.alloc _ _=w1
 replace L:=L.a2 hal
 clear hal
 replace L:=L.is0 (opv hd0 sc0) rfl
 generalize w.heap.size+1=gR at L ⊢
 generalize w.heap.size=gO at L ⊢
 have K_0:=(hBK.below L.K).at_ 0 (v:=.slice B m d) rfl
 have K_z:=(hBK.below L.K).lt
 go_wp2_with (first | (refine lC 1 (hBC.below L.K) ?_) | (refine lO 3 (L.bk_ 1 rfl) ?_))
 have KS:=L.K.size
 refine ((TK _ _ _ (hU.below L.K) (hL.below L.K)).out).mono ?_
 rintro e w2 ⟨h3,B2,d2,rfl,U,L',hA,K'⟩
 clear K_0 K_z
 have Lb:=L.lts
 replace L:=L.over K'
 replace L:=L.us_av (fun i b e=>hA b.1 (Lb i b e) (hU.apart0 hm0 L i b e)) U
 replace L:=L.lists Lb L'
 clear Lb
 try dsimp only [lF,List.cons_append,List.nil_append] at L
 clear L' U
 go_upto_region 2 with (refine sO 3 14 (L.bk_ 1 rfl) rfl rfl ?_)
 generalize hal:World.setRow _ _ _=w3
 replace L:=L.rr1 hal
 clear hal
 replace L:=L.drew
 refine wp_region_held_drew (S:=fun w'=>∃ v_R:Array Value,v_R.size=20∧Loc w w' [(gR,43,v_R),(gO,43,opv h3 s2)] [iF .u32 w1.heap.size h3.A0 h3.n0 h3.c0 l2.rqs,iF .u32 w1.heap.size h3.A1 h3.n1 h3.c1 l2.ads,iF .i64 w1.heap.size h3.A2 h3.n2 h3.c2 l2.ers,iF .u64 w1.heap.size h3.A3 h3.n3 h3.c3 l2.ses,uF B2 m d2 y2]) (by kernel_rfl) (⟨_,rfl,L⟩) (fun hHeld=>?_)
 generalize w3.drew=v4 at hHeld L ⊢
 refine tg 0 15 (.slice B2 m d2) rfl hHeld ?_
 refine tl 1 16 (.agg (opv h3 s2)) rfl (yieldsIf_load_row (by rfl) 43 (.tmp 3) rfl gO rfl 43 _ (0,0) _ (fun _ hS=>((hS.choose_spec.2).bk_ 1 rfl)) Tryz.underlying43 rfl op_sz) hHeld ?_
 refine tg 2 4 (.slice B2 m d2) rfl hHeld ?_
 refine rn 3 rfl fun K0 hK=>?_
 rw [if_pos (by rfl)]
 refine wp_store_row 43 (.tmp 5) (.tmp 16) rfl gR _ rfl rfl _ _ (L.bk_ 0 rfl) op_sz rfl (opv_one _ _) ?_
 replace L:=L.row 0 rfl (opv h3 s2)
 try dsimp only [nput] at L
 refine hK.out _ _ ⟨_,rfl,L⟩ ?_
 clear hHeld hK K0
 intro hHeld
 generalize v4.setRow gR (opv h3 s2)=v5 at hHeld L ⊢
 try simp only [Act.put]
 refine tg 4 6 (.bool false) rfl hHeld ?_
 refine wpAnyH_done (by kernel_rfl) ?_ _
 clear hHeld
 go_wp2
 refine eTCT Tryz.results121 (.slice B2 m d2) (.bool false) (L.bk_ 0 rfl) ?_
 exact ⟨_,_,_,rfl,L.us_ 4 rfl,(L.lists_at 0 rfl).lower_ KS,fun k hk=>hA k (Nat.lt_of_lt_of_le hk KS),L.K⟩
end
end Go.Proofs.YtfhefofkhmkcnaaGreatDoor

/-
 What grant.Step answers of a grant where it may be. Conditions: a block that may be,as many cells as there are.
-/
namespace Go.Proofs.YtfhefofkhmkcnaaGreatDoor
set_option maxRecDepth 100000
set_option maxRecDepth 100000
set_option maxRecDepth 100000
open Go.RowKit
set_option maxHeartbeats 8000000
set_option linter.unusedVariables false
section
variable {rq:List Int}
variable {w w1:World} {lo a m d D M ns N f:Nat} {ph p sh wo qu tr:Int} {A B:Option Addr} {n c:Nat} {zs:List Int} {sn ys:List Nat} {h:Hd} {s:Sc}
theorem gstep_to (hff:f=115∨f=117∨f=119∨f=121) (hY:YI M zs ys) (hU:US w B m d ys) (hL:Lists lo w h (gr rq sn)) (hph:ph=s.phase) (hwf:(Lit.int .i64 ph).wf=true) (hget:fget gph_l ph=some f)
  (TK:∀ w lo h kC kK,US w B m d ys→Lists lo w h (gr rq sn)→Bk w kC 27 #[.int .u32 (a:Int),.int .i64 p,.slice A n c,.int .i64 (ns:Int),.int .i64 wo,.int .i64 qu,.int .i64 tr]→Bk w kK 34 #[.slice B m d]→Hid (Calls Tryz.prog f #[.agg (opv h s),.pointer (some ⟨(gcap kC kK f).1,0,none⟩),.pointer (some ⟨(gcap kC kK f).2,0,none⟩)] w (RetG (gS a M ns ys s sn) (gr rq (gN M ys s sn)) m (gC M ys s) (gB M ys s sn) B w))) :
  Calls Tryz.prog 113 #[.agg #[.int .u32 (a:Int),.int .i64 p,.slice A n c,.int .i64 (ns:Int),.int .i64 wo,.int .i64 qu,.int .i64 tr],.slice B m d,.agg (opv h s)] w (RetG (gS a M ns ys s sn) (gr rq (gN M ys s sn)) m (gC M ys s) (gB M ys s sn) B w):=by
 have hm0:0<m:=by have:=hU.len;have:=hY.len;omega
 obtain ⟨s2,hs2⟩:∃ s2,s2=gS a M ns ys s sn:=⟨_,rfl⟩
 obtain ⟨l2,hl2⟩:∃ l2,l2=gr rq (gN M ys s sn):=⟨_,rfl⟩
 obtain ⟨y2,hy2⟩:∃ y2,y2=gC M ys s:=⟨_,rfl⟩
 obtain ⟨b2,hb2⟩:∃ b2,b2=gB M ys s sn:=⟨_,rfl⟩
 simp only [← hs2,← hl2,← hy2,← hb2] at TK ⊢
 clear hY hs2 hl2 hy2 hb2
 rcases s with ⟨kind,addr,err,aad,used,phase,shard,sought,leaf,bit,word,full,at_,tries,item,stamp⟩
 rcases h with ⟨A0,n0,c0,A1,n1,c1,A2,n2,c2,A3,n3,c3⟩
 try dsimp only at *
 subst hph
 go_enter Tryz.func113,Tryz.ntmps113
 go_upto_region 1 with (fail)
 have L:=Loc.start w
 generalize hal:World.alloc _ _=w1
 replace L:=L.a3 hal
 clear hal
 replace L:=L.is0 (opv hd0 sc0) rfl
 generalize w.heap.size+1+1=gR at L ⊢
 generalize w.heap.size+1=gO at L ⊢
 generalize w.heap.size=gH at L ⊢
 refine rg L fun v2 hHeld=>?_
 replace L:=hHeld
 refine tR 0 12 3 2 rfl rfl Tryz.underlying27 cf_sz hHeld ?_
 refine tg 1 13 (.slice B m d) rfl hHeld ?_
 refine tg 3 15 (.pointer (some ⟨gO,8,none⟩)) rfl hHeld ?_
 refine tC 4 16 1 8 rfl rfl rfl hHeld ?_
 refine rd 2 14 rfl fun K0 hK=>?_
 go_simp
 refine (gph_any B m d _).mono ?_
 rintro e w3 ⟨gm,kC,kK,rfl,hF,hBC,hBK,⟨hg1,hg2,hg3⟩,K'⟩
 have Lb:=L.lts
 replace L:=L.over K'
 replace L:=L.cmap Lb hg1 hF
 replace L:=L.bkf Lb hg2 hBC
 replace L:=L.bkf Lb hg3 hBK
 clear Lb
 try dsimp only [lF,List.cons_append,List.nil_append] at L
 clear hF hBC hBK hg1 hg2 hg3
 obtain ⟨kx,hkx⟩:∃ kx,kx=(gcap kC kK f).1:=⟨_,rfl⟩
 obtain ⟨ky,hky⟩:∃ ky,ky=(gcap kC kK f).2:=⟨_,rfl⟩
 have TK2:=fun w lo h U L hC hK=>TK w lo h kC kK U L hC hK
 simp only [← hkx,← hky] at TK2
 clear TK
 refine hK.out _ _ (L.less 3) ?_
 clear hHeld hK K0
 intro hHeld
 clear K'
 try simp only [Act.put,sA,sZ,sS]
 refine rd 5 17 rfl fun K0 hK=>?_
 have hrun:=CMap.look (L.get 2 rfl:CMap (gcap kC kK) _ gm gph_l) Tryz.underlying141 (gph_z _) hwf hget
 simp only [cloV,← hkx,← hky] at hrun
 clear hkx hky
 go_simp
 refine hK.out _ _ hHeld ?_
 clear hHeld hK K0
 intro hHeld
 try simp only [Act.put,sA,sZ,sS]
 clear hrun
 refine tz 6 11 rfl hHeld ?_
 refine tg 7 18 (.func (.func f) #[] #[.pointer (some ⟨kx,0,none⟩),.pointer (some ⟨ky,0,none⟩)]) rfl hHeld ?_
 refine tg 8 19 (.bool true) rfl hHeld ?_
 refine tg 9 9 (.func (.func f) #[] #[.pointer (some ⟨kx,0,none⟩),.pointer (some ⟨ky,0,none⟩)]) rfl hHeld ?_
 refine tg 10 10 (.bool true) rfl hHeld ?_
 refine wpAnyH_done (by kernel_rfl) ?_ _
 clear hHeld
 go_upto_region 4 with (fail)
 rcases hff with rfl | rfl | rfl | rfl
 all_goals (
  go_wp2_with (refine lO 5 (L.bk_ 1 rfl) ?_)
  have KS:=L.K.size
  refine ((TK2 _ _ _ (hU.below L.K) (hL.below L.K) (L.get 1 rfl) (L.get 0 rfl)).out).mono ?_
  rintro e w4 ⟨h3,B2,d2,rfl,U,L',hA,K'⟩
  have Lb:=L.lts
  replace L:=L.over K'
  replace L:=L.us_av (fun i b e=>hA b.1 (Lb i b e) (hU.apart0 hm0 L i b e)) U
  replace L:=L.lists Lb L'
  clear Lb
  try dsimp only [lF,List.cons_append,List.nil_append] at L
  clear U L'
  go_wp2_with (refine sO 7 29 (L.bk_ 0 rfl) rfl rfl ?_)
  generalize hal:World.setRow _ _ _=w5
  replace L:=L.rr0 hal
  clear hal
  refine eTCT Tryz.results113 (.slice B2 m d2) (.bool b2) (L.bk_ 0 rfl) ?_
  exact ⟨_,_,_,rfl,L.us_ 4 rfl,(L.lists_at 0 rfl).lower_ KS,fun k hk=>hA k (Nat.lt_of_lt_of_le hk KS),L.K⟩)
theorem gstep0 (ha:a<4294967296) (hM:Much a p M) (h1:1≤ns) (h2:ns≤64) (hN:N≤60000) (hq:rq.length≤65536) (hG:GI M ns zs N s sn) (hY:YI M zs ys) (hU:US w B m d ys) (hL:Lists lo w h (gr rq sn)) (hph:s.phase=0) :
  Calls Tryz.prog 113 #[.agg #[.int .u32 (a:Int),.int .i64 p,.slice A n c,.int .i64 (ns:Int),.int .i64 wo,.int .i64 qu,.int .i64 tr],.slice B m d,.agg (opv h s)] w (RetG (gS a M ns ys s sn) (gr rq (gN M ys s sn)) m (gC M ys s) (gB M ys s sn) B w):=by
 obtain ⟨e1,e2,e3,e4⟩:=gp_done (a:=a) (ys:=ys) hG hph
 rw [e1,e2,e3,e4]
 obtain ⟨z0,z1,z2,z3⟩:=gr_len hL
 have z9:=gp_few hM.most hG
 clear e1 e2 e3 e4 hG hY ha hM
 have TOwn:=fun w (L:Lists lo w h (gr rq sn))=>Lib.hid (own_any (s:=s) L (by omega) (by omega) (by omega) (by omega))
 clear z0 z1 z2 z3 z9
 rcases s with ⟨kind,addr,err,aad,used,phase,shard,sought,leaf,bit,word,full,at_,tries,item,stamp⟩
 rcases h with ⟨A0,n0,c0,A1,n1,c1,A2,n2,c2,A3,n3,c3⟩
 try dsimp only at *
 subst hph
 go_enter Tryz.func113,Tryz.ntmps113
 go_upto_region 1 with (fail)
 have L:=Loc.start w
 generalize hal:World.alloc _ _=w1
 replace L:=L.a3 hal
 clear hal
 replace L:=L.is0 (opv hd0 sc0) rfl
 generalize w.heap.size+1+1=gR at L ⊢
 generalize w.heap.size+1=gO at L ⊢
 generalize w.heap.size=gH at L ⊢
 refine rg L fun v2 hHeld=>?_
 replace L:=hHeld
 refine tR 0 12 3 2 rfl rfl Tryz.underlying27 cf_sz hHeld ?_
 refine tg 1 13 (.slice B m d) rfl hHeld ?_
 refine tg 3 15 (.pointer (some ⟨gO,8,none⟩)) rfl hHeld ?_
 refine tC 4 16 1 8 rfl rfl rfl hHeld ?_
 refine rd 2 14 rfl fun K0 hK=>?_
 go_simp
 refine (gph_any B m d _).mono ?_
 rintro e w3 ⟨gm,kC,kK,rfl,hF,hBC,hBK,⟨hg1,hg2,hg3⟩,K'⟩
 have Lb:=L.lts
 replace L:=L.over K'
 replace L:=L.cmap Lb hg1 hF
 replace L:=L.bkf Lb hg2 hBC
 replace L:=L.bkf Lb hg3 hBK
 clear Lb
 try dsimp only [lF,List.cons_append,List.nil_append] at L
 clear hF hBC hBK hg1 hg2 hg3
 refine hK.out _ _ (L.less 3) ?_
 clear hHeld hK K0
 intro hHeld
 clear K'
 try simp only [Act.put,sA,sZ,sS]
 refine rd 5 17 rfl fun K0 hK=>?_
 have hrun:=CMap.none (L.get 2 rfl:CMap (gcap kC kK) _ gm gph_l) Tryz.underlying141 (gph_z _) (k:=0) (by decide) rfl
 go_simp
 refine hK.out _ _ hHeld ?_
 clear hHeld hK K0
 intro hHeld
 try simp only [Act.put,sA,sZ,sS]
 clear hrun
 refine tz 6 11 rfl hHeld ?_
 refine tg 7 18 (.nilFunc) rfl hHeld ?_
 refine tg 8 19 (.bool false) rfl hHeld ?_
 refine tg 9 9 (.nilFunc) rfl hHeld ?_
 refine tg 10 10 (.bool false) rfl hHeld ?_
 refine wpAnyH_done (by kernel_rfl) ?_ _
 clear hHeld
 go_wp2_with (refine lO 5 (L.bk_ 1 rfl) ?_)
 have KS:=L.K.size
 refine ((TOwn _ (hL.below L.K)).out).mono ?_
 rintro e w4 ⟨A0',c0',A1',c1',A2',c2',A3',c3',rfl,L',K'⟩
 have Lb:=L.lts
 replace L:=L.over K'
 replace L:=L.lists Lb L'
 clear Lb
 try dsimp only [lF,List.cons_append,List.nil_append] at L
 clear L'
 go_wp2_with (refine sO 7 24 (L.bk_ 0 rfl) rfl rfl ?_)
 generalize hal:World.setRow _ _ _=w5
 replace L:=L.rr0 hal
 clear hal
 refine eTCT Tryz.results113 (.slice B m d) (.bool false) (L.bk_ 0 rfl) ?_
 exact ⟨_,_,_,rfl,hU.below L.K,(L.lists_at 0 rfl).lower_ KS,fun k _ h=>h,L.K⟩
theorem gstep_any (ha:a<4294967296) (hM:Much a p M) (h1:1≤ns) (h2:ns≤64) (hN:N≤60000) (hq:rq.length≤65536) (hG:GI M ns zs N s sn) (hY:YI M zs ys) (hU:US w B m d ys) (hL:Lists lo w h (gr rq sn)) :
  Calls Tryz.prog 113 #[.agg #[.int .u32 (a:Int),.int .i64 p,.slice A n c,.int .i64 (ns:Int),.int .i64 wo,.int .i64 qu,.int .i64 tr],.slice B m d,.agg (opv h s)] w (RetG (gS a M ns ys s sn) (gr rq (gN M ys s sn)) m (gC M ys s) (gB M ys s sn) B w):=by
 rcases gp_phase hG with h0 | h0 | h0 | h0 | h0 | h0 | h0 | h0
 ·exact gstep0 ha hM h1 h2 hN hq hG hY hU hL h0
 ·exact gstep_to (by decide) hY hU hL h0.symm (by decide) (f:=115) rfl (fun w lo h kC kK U L hC hK=>by
   have R:=gcl_seek (w:=w) (lo:=lo) (h:=h) (s:=s) (wo:=wo) (qu:=qu) (tr:=tr) (A:=A) (n:=n) (c:=c) (kC:=kC) (kK:=kK) ha hM h1 h2 hN hq hG hY U L hC hK h0
   rw [show gcap kC kK 115 = (kK,kC) from rfl]
   exact Lib.hid R)
 ·exact gstep_to (by decide) hY hU hL h0.symm (by decide) (f:=117) rfl (fun w lo h kC kK U L hC hK=>by
   have R:=gcl_claim (w:=w) (lo:=lo) (h:=h) (s:=s) (wo:=wo) (qu:=qu) (tr:=tr) (A:=A) (n:=n) (c:=c) (kC:=kC) (kK:=kK) ha hM h1 h2 hN hq hG hY U L hC hK (.inl h0)
   rw [show gcap kC kK 117 = (kC,kK) from rfl]
   exact Lib.hid R)
 ·exact gstep_to (by decide) hY hU hL h0.symm (by decide) (f:=117) rfl (fun w lo h kC kK U L hC hK=>by
   have R:=gcl_claim (w:=w) (lo:=lo) (h:=h) (s:=s) (wo:=wo) (qu:=qu) (tr:=tr) (A:=A) (n:=n) (c:=c) (kC:=kC) (kK:=kK) ha hM h1 h2 hN hq hG hY U L hC hK (.inr h0)
   rw [show gcap kC kK 117 = (kC,kK) from rfl]
   exact Lib.hid R)
 ·exact gstep_to (by decide) hY hU hL h0.symm (by decide) (f:=121) rfl (fun w lo h kC kK U L hC hK=>by
   have R:=gcl_mark (w:=w) (lo:=lo) (h:=h) (s:=s) (wo:=wo) (qu:=qu) (tr:=tr) (A:=A) (n:=n) (c:=c) (kC:=kC) (kK:=kK) ha hM h1 h2 hN hq hG hY U L hC hK (.inl h0)
   rw [show gcap kC kK 121 = (kC,kK) from rfl]
   exact Lib.hid R)
 ·exact gstep_to (by decide) hY hU hL h0.symm (by decide) (f:=121) rfl (fun w lo h kC kK U L hC hK=>by
   have R:=gcl_mark (w:=w) (lo:=lo) (h:=h) (s:=s) (wo:=wo) (qu:=qu) (tr:=tr) (A:=A) (n:=n) (c:=c) (kC:=kC) (kK:=kK) ha hM h1 h2 hN hq hG hY U L hC hK (.inr h0)
   rw [show gcap kC kK 121 = (kC,kK) from rfl]
   exact Lib.hid R)
 ·exact gstep_to (by decide) hY hU hL h0.symm (by decide) (f:=119) rfl (fun w lo h kC kK U L hC hK=>by
   have R:=gcl_sweep (w:=w) (lo:=lo) (h:=h) (s:=s) (wo:=wo) (qu:=qu) (tr:=tr) (A:=A) (n:=n) (c:=c) (kC:=kC) (kK:=kK) ha hM h1 h2 hN hq hG hY U L hC hK (.inl h0)
   rw [show gcap kC kK 119 = (kC,kK) from rfl]
   exact Lib.hid R)
 ·exact gstep_to (by decide) hY hU hL h0.symm (by decide) (f:=119) rfl (fun w lo h kC kK U L hC hK=>by
   have R:=gcl_sweep (w:=w) (lo:=lo) (h:=h) (s:=s) (wo:=wo) (qu:=qu) (tr:=tr) (A:=A) (n:=n) (c:=c) (kC:=kC) (kK:=kK) ha hM h1 h2 hN hq hG hY U L hC hK (.inr h0)
   rw [show gcap kC kK 119 = (kC,kK) from rfl]
   exact Lib.hid R)
end
end Go.Proofs.YtfhefofkhmkcnaaGreatDoor

/-
 What the document's own sets answer (Rises,Has,With,Without,Ints,Addrs held against one another): the same as the program's;nothing that was there is otherwise. Conditions: at most 65535 numbers.
-/
namespace Go.Proofs.YtfhefofkhmkcnaaGreatDoor
set_option maxRecDepth 100000
set_option maxRecDepth 100000
open Go.RowKit
set_option maxHeartbeats 8000000
section
variable {w:World} {lo lo':Nat} {A A':Option Addr} {n n' c c':Nat} {xs:List Int}
theorem ints_same (h:IS .i64 lo w A n c xs) (h':IS .i64 lo' w A' n' c' xs) (hn:n≤65536) :
  Calls Tryz.prog 18 #[.slice A n c,.slice A' n' c'] w (RetBo true w):=by
 obtain rfl:n=n':=h.len.symm.trans h'.len
 have e0:((n:Int) != (n:Int))=false:=by simp
 go_enter Tryz.func18,Tryz.ntmps18
 go_wp2
 go_loopw [5] (fun i wr=>∃ k:Nat,k≤n∧i=.int .i64 k∧Below w.heap.size w wr) (fun i _=>n - (intOf i).toNat)
 case atStart=>exact ⟨0,Nat.zero_le _,rfl,Below.refl _ _⟩
 case round =>
  obtain ⟨k,hk,rfl,Kr⟩:=hrel
  by_cases hlt:k<n
  ·obtain ⟨b,o,rfl,_,hc⟩:=(h.below Kr).get hlt
   obtain ⟨b',o',rfl,_,hc'⟩:=(h'.below Kr).get hlt
   have e1:(gi xs k != gi xs k)=false:=by simp
   go_wp2
   go_quiet (fail)
   go_wp2
   go_roundw
   case rel=>exact ⟨k+1,by omega,by go_num,below_drewN Kr _⟩
   case measure=>simp [intOf];omega
  ·go_wp2
   go_ret
   exact ⟨rfl,Kr⟩
theorem rhas9_any (h:IS .i64 lo w A n c xs) (hn:n≤65536) (x:Int) :
  Calls Tryz.prog 42 #[.slice A n c,.int .i64 x] w fun e w'=>e=.returned (.bool (hasB xs x))∧w=w':=by
 have hl:=h.len
 go_enter Tryz.func42,Tryz.ntmps42
 go_wp2
 go_loop [5] (fun i=>∃ k:Nat,k≤n∧i=.int .i64 k∧Hid (∀ j,j<k→gi xs j≠x)) (fun i=>n - (intOf i).toNat)
 case atStart=>exact ⟨0,Nat.zero_le _,rfl,fun j hj=>by omega⟩
 case round =>
  obtain ⟨k,hk,rfl,HH⟩:=hrel
  by_cases hlt:k<n
  ·obtain ⟨b,o,rfl,_,hc⟩:=h.get hlt
   by_cases he:gi xs k=x
   ·have e1:(gi xs k == x)=true:=by simp [he]
    have hx:hasB xs x=true:=decide_eq_true (mem_gi.2 ⟨k,by omega,he⟩)
    clear he
    go_wp2
    go_ret
    exact ⟨by first | rfl | exact ret_bool hx.symm,rfl⟩
   ·have e1:(gi xs k == x)=false:=by simpa using he
    have H2:Hid (∀ j,j<k+1→gi xs j≠x):=fun j hj=>by
     rcases Nat.lt_or_ge j k with g | g
     ·exact HH.out j g
     ·obtain rfl:j=k:=by omega
      exact he
    clear he
    go_wp2
    go_round
    case rel=>exact ⟨k+1,by omega,by go_num,H2⟩
    case measure=>simp [intOf];omega
  ·have hx:hasB xs x=false:=decide_eq_false (fun g=>by
    obtain ⟨j,hj,e⟩:=mem_gi.1 g
    exact HH.out j (by omega) e)
   go_wp2
   go_ret
   exact ⟨by first | rfl | exact ret_bool hx.symm,rfl⟩
theorem IS.here {k:IntKind} {b o:Nat} (h:IS k lo w (some ⟨b,o,none⟩) n c xs) {j:Nat} (hj:j<n):w.cell? ⟨b,o+j,none⟩=some (.int k (gi xs j)):=by
 obtain ⟨b',o',e,_,hc⟩:=h.get hj
 injection e with e
 injection e with e1 e2
 subst e1 e2
 exact hc
theorem ris_take (h:Ris xs) (k:Nat):Ris (xs.take k):=List.Pairwise.sublist (List.take_sublist _ _) h
theorem ris_snoc {l:List Int} {y:Int} (h:Ris (l ++ [y])):Ris l∧∀ z∈l,z<y:=by
 obtain ⟨h1,_,h3⟩:=List.pairwise_append.1 h
 exact ⟨h1,fun z hz=>h3 z hz y (by simp)⟩
theorem ins_snoc {l:List Int} {x y:Int} (h:Ris (l ++ [y])) (hx:x<y):ins l x ++ [y]=ins (l ++ [y]) x:=by
 obtain ⟨h1,h2⟩:=ris_snoc h
 refine Ris.ext (Ris.two (h1.ins x) (List.pairwise_singleton _ _) fun z hz b hb=>?_) (h.ins x) fun z=>?_
 ·have:b=y:=by simpa using hb
  subst this
  rcases mem_ins.1 hz with rfl | hz
  ·exact hx
  ·exact h2 z hz
 ·rw [List.mem_append,mem_ins,mem_ins,List.mem_append,or_assoc]
theorem ins_last {l:List Int} {x:Int} (h:Ris l) (hx:∀ z∈l,z<x):l ++ [x]=ins l x:=by
 refine Ris.ext (Ris.two h (List.pairwise_singleton _ _) fun z hz b hb=>?_) (h.ins x) fun z=>?_
 ·have:b=x:=by simpa using hb
  subst this
  exact hx z hz
 ·rw [List.mem_append,mem_ins]
  simp only [List.mem_singleton]
  exact Or.comm
theorem del_snoc (l:List Int) (x y:Int):del (l ++ [y]) x=del l x ++ (if y=x then [] else [y]):=by
 unfold del
 rw [List.filter_append]
 by_cases h:y=x
 ·simp [h]
 ·simp [h]
theorem mem_take_gi {xs:List Int} {k:Nat} {z:Int} (hk:k≤xs.length):z∈xs.take k↔∃ j,j<k∧gi xs j=z:=by
 constructor
 ·intro h
  obtain ⟨j,hj,e⟩:=List.getElem_of_mem h
  rw [List.getElem_take] at e
  rw [List.length_take] at hj
  exact ⟨j,by omega,by rw [gi_at (by omega)];exact e⟩
 ·rintro ⟨j,hj,rfl⟩
  rw [gi_at (by omega)]
  exact List.mem_take_iff_getElem.2 ⟨j,by omega,rfl⟩
end
end Go.Proofs.YtfhefofkhmkcnaaGreatDoor

/-
  What the document's own Of, Full, Addrs and May answer of a configuration that may be: the same as the program's; nothing that was there is otherwise.
-/
namespace Go.Proofs.YtfhefofkhmkcnaaGreatDoor
set_option maxRecDepth 100000
set_option maxRecDepth 100000
open Go.RowKit
section
variable {w : World} {lo lo2 a M : Nat} {p sh wo qu tr : Int} {A B : Option Addr} {n c m d : Nat} {zs xs : List Int} {ys : List Nat}
set_option maxHeartbeats 1000000 in
theorem rfull9_any (hM : Much a p M) (h : IS .i64 lo w A n c zs) (hn : n ≤ 65536) (hs : IS .i64 lo2 w B m d xs) (hm : m ≤ 65536) :
    Calls Tryz.prog 43 #[.agg #[.int .u32 a, .int .i64 p, .slice A n c, .int .i64 sh, .int .i64 wo, .int .i64 qu, .int .i64 tr], .slice B m d] w (RetBo (fullB M zs xs) w) := by
  have hMm := hM.most
  have K := below_alloc w (.cells #[.int .u32 a, .int .i64 p, .slice A n c, .int .i64 sh, .int .i64 wo, .int .i64 qu, .int .i64 tr] 27)
  have H := Bk.new w #[.int .u32 a, .int .i64 p, .slice A n c, .int .i64 sh, .int .i64 wo, .int .i64 qu, .int .i64 tr] 27
  replace h := h.below K
  replace hs := hs.below K
  go_enter Tryz.func43, Tryz.ntmps43
  go_upto_region 1 with (fail)
  generalize w.alloc (.cells #[.int .u32 a, .int .i64 p, .slice A n c, .int .i64 sh, .int .i64 wo, .int .i64 qu, .int .i64 tr] 27) = w2 at H K h hs ⊢
  generalize w.heap.size = g at H ⊢
  go_wp2
  go_loopw [5] (fun i wr => ∃ k : Nat, k ≤ M ∧ i = .int .i64 k ∧ Hid (∀ i : Nat, i < k → hasB zs i = true ∨ hasB xs i = true) ∧ Below w2.heap.size w2 wr) (fun i _ => M - (intOf i).toNat)
  case atStart => exact ⟨0, Nat.zero_le _, rfl, fun i hi => by omega, Below.refl _ _⟩
  case round =>
    obtain ⟨k, hk, rfl, HH, Kr⟩ := hrel
    replace H := H.below Kr
    replace h := h.below Kr
    replace hs := hs.below Kr
    replace K := Below.then_ K Kr
    have H_0 := H.at_ (v := .int .u32 a) 0 rfl
    have H_1 := H.at_ (v := .int .i64 p) 1 rfl
    have H_z := H.lt
    go_wp2_with fail
    refine (rmany_yes hM).mono ?_
    rintro e w3 ⟨rfl, K'⟩
    clear H_0 H_1 H_z
    replace H := H.below K'
    replace h := h.below K'
    replace hs := hs.below K'
    replace K := Below.then_ K K'
    replace Kr := Below.then_ Kr K'
    clear K'
    by_cases hlt : k < M
    · have T2 := Lib.hid (rheld_any (a := a) (p := p) (sh := sh) (wo := wo) (qu := qu) (tr := tr) h hn (k : Int))
      have H_0 := H.at_ (v := .int .u32 a) 0 rfl
      have H_1 := H.at_ (v := .int .i64 p) 1 rfl
      have H_2 := H.at_ (v := .slice A n c) 2 rfl
      have H_3 := H.at_ (v := .int .i64 sh) 3 rfl
      have H_4 := H.at_ (v := .int .i64 wo) 4 rfl
      have H_5 := H.at_ (v := .int .i64 qu) 5 rfl
      have H_6 := H.at_ (v := .int .i64 tr) 6 rfl
      have H_z := H.lt
      cases h1 : hasB zs (k : Int) with
      | true =>
        rw [h1] at T2
        have H2 : Hid (∀ i : Nat, i < k + 1 → hasB zs i = true ∨ hasB xs i = true) := fun i hi => by
          rcases Nat.lt_or_ge i k with g | g
          · exact HH.out i g
          · obtain rfl : i = k := by omega
            exact .inl h1
        clear h1 HH
        go_wp2_with fail
        refine (T2.out).mono ?_
        rintro e w4 ⟨rfl, K'⟩
        clear H_0 H_1 H_2 H_3 H_4 H_5 H_6 H_z
        replace Kr := Below.then_ Kr K'
        clear K' T2
        go_wp2
        go_roundw
        case rel => exact ⟨k + 1, by omega, by go_num, H2, Kr⟩
        case measure => simp [intOf]; omega
      | false =>
        rw [h1] at T2
        go_wp2_with fail
        refine (T2.out).mono ?_
        rintro e w4 ⟨rfl, K'⟩
        clear H_0 H_1 H_2 H_3 H_4 H_5 H_6 H_z
        replace Kr := Below.then_ Kr K'
        replace K := Below.then_ K K'
        have T3 := Lib.hid (rhas9_any (hs.below K') hm (k : Int))
        clear K' T2
        cases h2 : hasB xs (k : Int) with
        | true =>
          rw [h2] at T3
          have H2 : Hid (∀ i : Nat, i < k + 1 → hasB zs i = true ∨ hasB xs i = true) := fun i hi => by
            rcases Nat.lt_or_ge i k with g | g
            · exact HH.out i g
            · obtain rfl : i = k := by omega
              exact .inr h2
          clear h1 h2 HH
          go_wp2_with fail
          refine (T3.out).mono ?_
          rintro e w5 ⟨rfl, rfl⟩
          clear T3
          go_wp2
          go_roundw
          case rel => exact ⟨k + 1, by omega, by go_num, H2, Kr⟩
          case measure => simp [intOf]; omega
        | false =>
          rw [h2] at T3
          have N : Hid (fullB M zs xs = false) := by
            rw [Hid, Bool.eq_false_iff]
            intro g
            have := fullB_iff.1 g k hlt
            rw [h1, h2] at this
            rcases this with e | e <;> cases e
          clear h1 h2 HH
          go_wp2_with fail
          refine (T3.out).mono ?_
          rintro e w5 ⟨rfl, rfl⟩
          clear T3
          go_wp2
          go_ret
          exact ⟨ret_bool N.out.symm, K⟩
    · have N : Hid (fullB M zs xs = true) := fullB_iff.2 fun i hi => HH.out i (by omega)
      clear HH
      go_wp2
      go_ret
      exact ⟨ret_bool N.out.symm, K⟩
end
end Go.Proofs.YtfhefofkhmkcnaaGreatDoor

/-
  What the document's own Of and With answer, in new memory.
-/
namespace Go.Proofs.YtfhefofkhmkcnaaGreatDoor
set_option maxRecDepth 100000
set_option maxRecDepth 100000
open Go.RowKit
def RetIN (k : IntKind) (xs : List Int) (w : World) (e : Ending) (w' : World) : Prop := ∃ A n c, e = .returned (.slice A n c) ∧ IS k w.heap.size w' A n c xs ∧ Below w.heap.size w w'
section
variable {w : World} {lo lo' : Nat} {A A' : Option Addr} {n n' c c' : Nat} {xs : List Int}
end
section
variable {w : World} {lo lo2 a M : Nat} {p sh wo qu tr : Int} {A B : Option Addr} {n c m d : Nat} {zs xs : List Int} {ys : List Nat}
set_option maxHeartbeats 1000000 in
theorem rof_new (hM : Much a p M) (h : IS .i64 lo w A n c zs) (hn : n ≤ 65536) (hU : US w B m d ys) (hm : lv M ≤ m) (_hm2 : m ≤ 65536) :
    Calls Tryz.prog 14 #[.agg #[.int .u32 a, .int .i64 p, .slice A n c, .int .i64 sh, .int .i64 wo, .int .i64 qu, .int .i64 tr], .slice B m d] w (RetIN .i64 (os (uf zs ys) M) w) := by
  have hMm := hM.most
  have h4 : M ≤ 32 * m := by have : M ≤ 32 * lv M := by unfold lv; omega
                             omega
  clear hm
  have K := below_alloc w (.cells #[.int .u32 a, .int .i64 p, .slice A n c, .int .i64 sh, .int .i64 wo, .int .i64 qu, .int .i64 tr] 27)
  have H := Bk.new w #[.int .u32 a, .int .i64 p, .slice A n c, .int .i64 sh, .int .i64 wo, .int .i64 qu, .int .i64 tr] 27
  replace h := h.below K
  replace hU := hU.below K
  go_enter Tryz.func14, Tryz.ntmps14
  go_upto_region 1 with (fail)
  generalize w.alloc (.cells #[.int .u32 a, .int .i64 p, .slice A n c, .int .i64 sh, .int .i64 wo, .int .i64 qu, .int .i64 tr] 27) = w2 at H K h hU ⊢
  have hw2 : w.heap.size ≤ w2.heap.size := K.size
  generalize w.heap.size = g at H ⊢
  go_wp2
  go_loopw [5, 6] (fun s i wr => ∃ (k q e : Nat) (C : Option Addr), k ≤ M ∧ i = .int .i64 k ∧ s = .slice C q e ∧ Hid (Ri .i64 3 wr w2.heap.size (.slice C q e) q (os (uf zs ys) k)) ∧ Below w2.heap.size w2 wr) (fun _ i _ => M - (intOf i).toNat)
  case atStart => exact ⟨0, 0, 0, none, Nat.zero_le _, rfl, rfl, Lib.hid (Ri.nil _ _), Below.refl _ _⟩
  case round =>
    obtain ⟨k, q, e, C, hk, rfl, rfl, HR, Kr⟩ := hrel
    replace H := H.below Kr
    replace h := h.below Kr
    replace K := Below.then_ K Kr
    replace HR := HR.out
    have H_0 := H.at_ (v := .int .u32 a) 0 rfl
    have H_1 := H.at_ (v := .int .i64 p) 1 rfl
    have H_z := H.lt
    go_wp2_with fail
    refine (rmany_yes hM).mono ?_
    rintro e w3 ⟨rfl, K'⟩
    clear H_0 H_1 H_z
    replace HR := HR.below K'
    replace H := H.below K'
    replace h := h.below K'
    replace K := Below.then_ K K'
    replace Kr := Below.then_ Kr K'
    clear K'
    by_cases hlt : k < M
    · have hql := HR.len
      have hq := len_os (uf zs ys) k
      rw [hql] at hq
      obtain ⟨l, hl⟩ : ∃ l : Nat, (k : Int) / 32 = l := ⟨k / 32, by omega⟩
      obtain ⟨r, hr⟩ : ∃ r : Nat, (k : Int) % 32 = r := ⟨k % 32, by omega⟩
      have hl2 : l = k / 32 := by omega
      have hr2 : r = k % 32 := by omega
      have hr3 : r < 64 := by omega
      have huf := Lib.hid (show uf zs ys k = ((gt ys l).testBit r && !hasB zs (k : Int)) by unfold uf; rw [← hl2, ← hr2])
      obtain ⟨bb, oo, rfl, _, hc⟩ := (hU.below Kr).get (j := l) (by omega)
      have T1 := fun w => Lib.hid (rhas_any (gt ys l) r (gt_lt hU.fit l) hr3 w)
      have T2 := Lib.hid (rheld_any (a := a) (p := p) (sh := sh) (wo := wo) (qu := qu) (tr := tr) h hn (k : Int))
      clear hl2 hr2 hql
      generalize gt ys l = X at *
      have hv := huf.out
      clear huf
      cases h1 : X.testBit r with
      | false =>
        rw [h1, Bool.false_and] at hv
        rw [h1] at T1
        have HR2 := HR
        rw [← os_no hv] at HR2
        replace HR2 := Lib.hid HR2
        clear h1 hv HR T2
        go_wp2_with ((with_reducible refine ((T1 _).out).mono ?_); rintro e w' ⟨rfl, rfl⟩)
        go_roundw
        case rel => exact ⟨k + 1, q, _, C, by omega, by go_num, rfl, HR2, Kr⟩
        case measure => simp [intOf]; omega
      | true =>
        rw [h1] at T1
        have H_0 := H.at_ (v := .int .u32 a) 0 rfl
        have H_1 := H.at_ (v := .int .i64 p) 1 rfl
        have H_2 := H.at_ (v := .slice A n c) 2 rfl
        have H_3 := H.at_ (v := .int .i64 sh) 3 rfl
        have H_4 := H.at_ (v := .int .i64 wo) 4 rfl
        have H_5 := H.at_ (v := .int .i64 qu) 5 rfl
        have H_6 := H.at_ (v := .int .i64 tr) 6 rfl
        have H_z := H.lt
        cases h2 : hasB zs (k : Int) with
        | true =>
          rw [h1, h2] at hv
          rw [h2] at T2
          have HR2 := HR
          rw [← os_no (by rw [hv]; rfl)] at HR2
          clear h1 h2 hv HR
          go_wp2_with ((with_reducible refine ((T1 _).out).mono ?_); rintro e w' ⟨rfl, rfl⟩)
          refine (T2.out).mono ?_
          rintro e w4 ⟨rfl, K'⟩
          clear H_0 H_1 H_2 H_3 H_4 H_5 H_6 H_z
          replace HR2 := Lib.hid (HR2.below K')
          replace Kr := Below.then_ Kr K'
          clear K' T2 T1
          go_wp2
          go_roundw
          case rel => exact ⟨k + 1, q, _, C, by omega, by go_num, rfl, HR2, Kr⟩
          case measure => simp [intOf]; omega
        | false =>
          rw [h1, h2] at hv
          rw [h2] at T2
          have hos := Lib.hid (os_yes (f := uf zs ys) (k := k) (by rw [hv]; rfl))
          clear h1 h2 hv
          go_wp2_with ((with_reducible refine ((T1 _).out).mono ?_); rintro e w' ⟨rfl, rfl⟩)
          refine (T2.out).mono ?_
          rintro e w4 ⟨rfl, K'⟩
          clear H_0 H_1 H_2 H_3 H_4 H_5 H_6 H_z
          replace HR := HR.below K'
          replace Kr := Below.then_ Kr K'
          clear K' T2 T1
          obtain ⟨i0, hi, hz0, hz1, hz2⟩ := info_parts int_info
          obtain ⟨C2, e2, w5, hap, R5, K5⟩ := run_app1 (P := Tryz.prog) (x := (k : Int)) Tryz.underlying25 hi hz0 hz1 (by omega) HR (by omega) Kr.size 25
          have HA := Lib.hid hap
          rw [← hos.out] at R5
          have HR2 := Lib.hid R5
          have K6 := Kr.trans K5
          clear HR hap R5 K5 hi hz0 hz1 hz2 hos
          go_wp2_with (at_builtin; refine wpList_append_run rfl (.tmp 28) (.tmp 30) 25 rfl _ _ _ _ rfl rfl HA.out ?_)
          go_roundw
          case rel => exact ⟨k + 1, q + 1, e2, C2, by omega, by go_num, rfl, HR2, K6⟩
          case measure => simp [intOf]; omega
    · obtain rfl : k = M := by omega
      have I := Lib.hid ((HR.is).lower hw2)
      clear HR
      go_wp2
      go_ret
      exact ⟨_, _, _, rfl, I.out, K⟩
end
end Go.Proofs.YtfhefofkhmkcnaaGreatDoor

/-
 What a claim,or a drop,of an offset's bit in the cells makes of the set that they tell;other cells than leaves say nothing. No program in it,but for words.
-/
namespace Go.Proofs.YtfhefofkhmkcnaaGreatDoor
set_option maxRecDepth 100000
set_option maxRecDepth 100000
open Go.RowKit
set_option maxHeartbeats 8000000
section
variable {zs:List Int} {ys:List Nat} {M o m:Nat}
theorem uf_claim (ho:o/32<ys.length) (i:Nat):uf zs (ys.set (o/32) (clm (gt ys (o/32)) (o%32))) i=((gt ys (i/32)).testBit (i%32) && !hasB zs (i:Int) || decide (i=o) && !hasB zs (i:Int)):=by
 unfold uf
 rw [gt_set ho]
 by_cases e:o/32=i/32
 ·rw [if_pos e,clm_bit _ _ (by omega),e]
  by_cases e2:o%32=i%32
  ·have e3:i=o:=by omega
   rw [decide_eq_true e2,decide_eq_true e3]
   cases (gt ys (i/32)).testBit (i%32) <;> cases hasB zs (i:Int) <;> rfl
  ·have e3:¬ i=o:=by omega
   rw [decide_eq_false e2,decide_eq_false e3]
   cases (gt ys (i/32)).testBit (i%32) <;> cases hasB zs (i:Int) <;> rfl
 ·have e3:¬ i=o:=by omega
  rw [if_neg e,decide_eq_false e3]
  cases (gt ys (i/32)).testBit (i%32) <;> cases hasB zs (i:Int) <;> rfl
theorem uf_drop (ho:o/32<ys.length) (hf:∀ x∈ys,x<U64) (i:Nat):uf zs (ys.set (o/32) (drp (gt ys (o/32)) (o%32))) i=(uf zs ys i && !decide (i=o)):=by
 have hX:gt ys (o/32)<18446744073709551616:=gt_lt hf _
 unfold uf
 rw [gt_set ho]
 by_cases e:o/32=i/32
 ·rw [if_pos e,drp_bit hX (by omega) (by omega),e]
  by_cases e2:o%32=i%32
  ·have e3:i=o:=by omega
   rw [decide_eq_true e2,decide_eq_true e3]
   cases (gt ys (i/32)).testBit (i%32) <;> cases hasB zs (i:Int) <;> rfl
  ·have e3:¬ i=o:=by omega
   rw [decide_eq_false e2,decide_eq_false e3]
   cases (gt ys (i/32)).testBit (i%32) <;> cases hasB zs (i:Int) <;> rfl
 ·have e3:¬ i=o:=by omega
  rw [if_neg e,decide_eq_false e3]
  cases (gt ys (i/32)).testBit (i%32) <;> cases hasB zs (i:Int) <;> rfl
theorem os_same {f g:Nat→Bool} {k:Nat} (h:∀ i,i<k→f i=g i):os f k=os g k :=
 os_congr fun i=>⟨fun ⟨h1,h2⟩=>⟨h1,by rw [← h i h1];exact h2⟩,fun ⟨h1,h2⟩=>⟨h1,by rw [h i h1];exact h2⟩⟩
theorem os_claim (ho:o/32<ys.length) (hoM:o<M) (hh:hasB zs (o:Int)=false):os (uf zs (ys.set (o/32) (clm (gt ys (o/32)) (o%32)))) M=ins (os (uf zs ys) M) (o:Int):=by
 refine (ris_os _ _).ext ((ris_os _ _).ins _) fun z=>?_
 rw [mem_ins,mem_os,mem_os]
 constructor
 ·rintro ⟨i,h1,h2,rfl⟩
  rw [uf_claim ho] at h2
  by_cases e:i=o
  ·exact .inl (by rw [e])
  ·refine .inr ⟨i,h1,?_,rfl⟩
   rw [decide_eq_false e] at h2
   unfold uf
   simpa using h2
 ·rintro (h | ⟨i,h1,h2,rfl⟩)
  ·refine ⟨o,hoM,?_,h⟩
   rw [uf_claim ho,hh]
   simp
  ·refine ⟨i,h1,?_,rfl⟩
   rw [uf_claim ho]
   unfold uf at h2
   rw [h2,Bool.true_or]
theorem os_drop (ho:o/32<ys.length) (hf:∀ x∈ys,x<U64):os (uf zs (ys.set (o/32) (drp (gt ys (o/32)) (o%32)))) M=del (os (uf zs ys) M) (o:Int):=by
 refine (ris_os _ _).ext ((ris_os _ _).del _) fun z=>?_
 rw [mem_del,mem_os,mem_os]
 constructor
 ·rintro ⟨i,h1,h2,rfl⟩
  rw [uf_drop ho hf] at h2
  simp only [Bool.and_eq_true,Bool.not_eq_true',decide_eq_false_iff_not] at h2
  exact ⟨⟨i,h1,h2.1,rfl⟩,by omega⟩
 ·rintro ⟨⟨i,h1,h2,rfl⟩,hne⟩
  refine ⟨i,h1,?_,rfl⟩
  rw [uf_drop ho hf,h2,decide_eq_false (by omega)]
  rfl
theorem has_os (hoM:o<M) (hh:hasB zs (o:Int)=false):hasB (os (uf zs ys) M) (o:Int)=(gt ys (o/32)).testBit (o%32):=by
 have e:uf zs ys o=(gt ys (o/32)).testBit (o%32):=by unfold uf;rw [hh];simp
 rw [← e,Bool.eq_iff_iff,hasB_iff,mem_os]
 constructor
 ·rintro ⟨i,_,h2,h3⟩
  obtain rfl:o=i:=by omega
  exact h2
 ·exact fun h=>⟨o,hoM,h,rfl⟩
end
end Go.Proofs.YtfhefofkhmkcnaaGreatDoor
