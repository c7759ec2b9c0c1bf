/-
  What the functions that these laws call answer, and what follows of it; conditions: those that each theorem names. In this file: Loc, Sh2, BkMay.
-/
import Derived.Test.YtfhefofkhmkcnaaGreatDoorPl9
import Derived.Deep.WholeRow
/-
 Loc: what a call knows of its memory in one fact: nothing that was there is otherwise;the blocks of its own,each known whole,all unlike;lists and maps in memory that these blocks don't touch. One law for each thing that may befall. No condition on the program.
-/
namespace Go.Proofs.YtfhefofkhmkcnaaGreatDoor
set_option maxRecDepth 100000
set_option maxRecDepth 100000
open Go.RowKit
set_option maxHeartbeats 8000000
set_option linter.unusedVariables false
def nth {α:Type}:List α→Nat→Option α
 | [],_=>none
 | a :: _,0=>some a
 | _ :: l,k+1=>nth l k
def nput {α:Type}:List α→Nat→α→List α
 | [],_,_=>[]
 | _ :: l,0,b=>b :: l
 | a :: l,k+1,b=>a :: nput l k b
theorem nth_nput {α:Type} {b:α}:∀ {l:List α} {i j:Nat} {x:α},nth (nput l i b) j=some x→(i=j∧x=b)∨(i≠j∧nth l j=some x)
 | [],i,j,x,h=>by cases h
 | a :: l,0,0,x,h=>by injection h with h;exact .inl ⟨rfl,h.symm⟩
 | a :: l,0,j+1,x,h=>.inr ⟨by omega,h⟩
 | a :: l,i+1,0,x,h=>.inr ⟨by omega,h⟩
 | a :: l,i+1,j+1,x,h=>by
  rcases nth_nput (l:=l) (i:=i) (j:=j) (by exact h) with ⟨h1,h2⟩ | ⟨h1,h2⟩
  ·exact .inl ⟨by omega,h2⟩
  ·exact .inr ⟨by omega,h2⟩
theorem nth_mem {α:Type}:∀ {l:List α} {i:Nat} {x:α},nth l i=some x→x∈l
 | [],i,x,h=>by cases h
 | a :: l,0,x,h=>by injection h with h;subst h;exact List.mem_cons_self ..
 | a :: l,i+1,x,h=>List.mem_cons_of_mem _ (nth_mem (l:=l) (i:=i) h)
/-- A block: where it lies, its type, what it holds. -/
abbrev Bl:=Nat×TypeId×Array Value
/-- Something that is so in a world, and the blocks on which it hangs. -/
structure Fct where
 P:World→Prop
 F:Nat→Prop
structure Fct.Ok (f:Fct):Prop where
 keep:∀ w w',f.P w→w.heap.size≤w'.heap.size→(∀ b,b<w.heap.size→f.F b→w'.heap[b]? = w.heap[b]?)→f.P w'
 inb:∀ w b,f.P w→f.F b→b<w.heap.size
structure Loc (w0 w:World) (bs:List Bl) (fs:List Fct):Prop where
 K:Below w0.heap.size w0 w
 bk:∀ i b,nth bs i=some b→Bk w b.1 b.2.1 b.2.2∧w0.heap.size≤b.1
 ne:∀ i j b b',nth bs i=some b→nth bs j=some b'→i≠j→b.1≠b'.1
 fc:∀ f,f∈fs→f.P w∧f.Ok∧∀ i b,nth bs i=some b→¬ f.F b.1
section
variable {w0 w w':World} {bs:List Bl} {fs:List Fct} {g g':Nat} {t t':TypeId} {l l':Array Value}
theorem Loc.start (w:World):Loc w w [] []:=⟨Below.refl _ _,(fun i b h=>by cases h),(fun i j b b' h=>by cases h),(fun f h=>by cases h)⟩
theorem Loc.other (h:Loc w0 w bs fs) (o:Obj):Loc w0 (w.alloc o) bs fs :=
 ⟨Below.then_ h.K (below_alloc w o),fun i b e=>⟨(h.bk i b e).1.alloc o,(h.bk i b e).2⟩,h.ne,fun f e=>by
  obtain ⟨p,ok,d⟩:=h.fc f e
  exact ⟨ok.keep _ _ p (below_alloc w o).size (fun b hb _=>(below_alloc w o).block b hb),ok,d⟩⟩
theorem Loc.alloc (h:Loc w0 w bs fs) (l:Array Value) (t:TypeId):Loc w0 (w.alloc (.cells l t)) ((w.heap.size,t,l) :: bs) fs:=by
 have h':=h.other (.cells l t)
 refine ⟨h'.K,fun i b e=>?_,fun i j b b' e e' hij=>?_,fun f e=>?_⟩
 ·match i,e with
  | 0,e=>injection e with e;subst e;exact ⟨Bk.new _ _ _,h.K.size⟩
  | i+1,e=>exact h'.bk i b e
 ·match i,j,e,e',hij with
  | 0,0,_,_,hij=>exact absurd rfl hij
  | 0,j+1,e,e',_ =>
   injection e with e;subst e
   have:=(h.bk j b' e').1.lt
   show w.heap.size≠b'.1
   omega
  | i+1,0,e,e',_ =>
   injection e' with e';subst e'
   have:=(h.bk i b e).1.lt
   show b.1≠w.heap.size
   omega
  | i+1,j+1,e,e',hij=>exact h.ne i j b b' e e' (by omega)
 ·obtain ⟨p,ok,d⟩:=h'.fc f e
  refine ⟨p,ok,fun i b e'=>?_⟩
  match i,e' with
  | 0,e' =>
   injection e' with e';subst e'
   intro hf
   have:=ok.inb _ _ (h.fc f e).1 hf
   simp at this
  | i+1,e'=>exact d i b e'
theorem Loc.over (h:Loc w0 w bs fs) (K':Below w.heap.size w w'):Loc w0 w' bs fs :=
 ⟨Below.then_ h.K K',fun i b e=>⟨(h.bk i b e).1.below K',(h.bk i b e).2⟩,h.ne,fun f e=>by
  obtain ⟨p,ok,d⟩:=h.fc f e
  exact ⟨ok.keep _ _ p K'.size (fun b hb _=>K'.block b hb),ok,d⟩⟩
theorem Loc.drew (h:Loc w0 w bs fs):Loc w0 w.drew bs fs:=h.over (Below.refl _ _).drew
/-- One block is written, by whatever leaves all others alone. -/
theorem Loc.put (h:Loc w0 w bs fs) (i:Nat) (hi:nth bs i=some (g,t,l)) (K:Below w0.heap.size w0 w') (hs:w.heap.size≤w'.heap.size) (hb:Bk w' g t l') (ho:∀ b,b≠g→w'.heap[b]? = w.heap[b]?):Loc w0 w' (nput bs i (g,t,l')) fs:=by
 refine ⟨K,fun j b e=>?_,fun j k b b' e e' hjk=>?_,fun f e=>?_⟩
 ·rcases nth_nput e with ⟨_,rfl⟩ | ⟨hij,e⟩
  ·exact ⟨hb,(h.bk i _ hi).2⟩
  ·exact ⟨(ho b.1 (h.ne j i b _ e hi (Ne.symm hij))).trans (h.bk j b e).1,(h.bk j b e).2⟩
 ·rcases nth_nput e with ⟨e1,rfl⟩ | ⟨hij,e⟩
  ·rcases nth_nput e' with ⟨e2,rfl⟩ | ⟨hik,e'⟩
   ·omega
   ·exact h.ne i k (g,t,l) b' hi e' hik
  ·rcases nth_nput e' with ⟨e2,rfl⟩ | ⟨hik,e'⟩
   ·exact h.ne j i b (g,t,l) e hi (Ne.symm hij)
   ·exact h.ne j k b b' e e' hjk
 ·obtain ⟨p,ok,d⟩:=h.fc f e
  refine ⟨ok.keep _ _ p hs (fun b _ hf=>ho b fun eb=>?_),ok,fun j b e'=>?_⟩
  ·subst eb;exact d i _ hi hf
  ·rcases nth_nput e' with ⟨_,rfl⟩ | ⟨_,e'⟩
   ·exact d i (g,t,l) hi
   ·exact d j b e'
theorem Loc.set (h:Loc w0 w bs fs) (i o:Nat) (hi:nth bs i=some (g,t,l)) (v:Value):Loc w0 (w.setCell ⟨g,o,none⟩ v) (nput bs i (g,t,l.setIfInBounds o v)) fs :=
 h.put i hi (h.K.setCell (p:=⟨g,o,none⟩) (h.bk i _ hi).2 v) (by simp [World.setCell]) ((h.bk i _ hi).1.set_ o v) (fun b hb=>Below.heap_setCell w ⟨g,o,none⟩ v b hb)
theorem Loc.row (h:Loc w0 w bs fs) (i:Nat) (hi:nth bs i=some (g,t,l)) (l':Array Value):Loc w0 (w.setRow g l') (nput bs i (g,t,l')) fs :=
 h.put i hi (below_setRow h.K (h.bk i _ hi).2 l') (by simp) ((h.bk i _ hi).1.row l') (fun b hb=>setRow_other w g b l' hb)
/-- A block's content, said otherwise. -/
theorem Loc.is (h:Loc w0 w bs fs) (i:Nat) (l':Array Value) (e:nth bs i=some (g,t,l')):Loc w0 w (nput bs i (g,t,l')) fs :=
 h.put i e h.K (Nat.le_refl _) (h.bk i _ e).1 (fun _ _=>rfl)
theorem Loc.bk_ (h:Loc w0 w bs fs) (i:Nat) (hi:nth bs i=some (g,t,l)):Bk w g t l:=(h.bk i _ hi).1
theorem Loc.at_ (h:Loc w0 w bs fs) (i o:Nat) (hi:nth bs i=some (g,t,l)) {v:Value} (e:l[o]? = some v):w.cell? ⟨g,o,none⟩=some v:=(h.bk_ i hi).at_ o e
theorem Loc.lt (h:Loc w0 w bs fs) (i:Nat) (hi:nth bs i=some (g,t,l)):g<w.heap.size:=(h.bk_ i hi).lt
theorem Loc.fz (h:Loc w0 w bs fs) (i o:Nat) (hi:nth bs i=some (g,t,l)):w.frozen? ⟨g,o,none⟩=false:=(h.bk_ i hi).fz o
theorem Loc.ne_ (h:Loc w0 w bs fs) (i j:Nat) (hi:nth bs i=some (g,t,l)) (hj:nth bs j=some (g',t',l')) (hij:i≠j):g≠g':=h.ne i j _ _ hi hj hij
theorem Loc.lts (h:Loc w0 w bs fs):∀ i b,nth bs i=some b→b.1<w.heap.size:=fun i b e=>(h.bk i b e).1.lt
theorem Loc.ges (h:Loc w0 w bs fs):∀ i b,nth bs i=some b→w0.heap.size≤b.1:=fun i b e=>(h.bk i b e).2
theorem Loc.add (h:Loc w0 w bs fs) (f:Fct) (hP:f.P w) (ok:f.Ok) (hd:∀ i b,nth bs i=some b→¬ f.F b.1):Loc w0 w bs (f :: fs) :=
 ⟨h.K,h.bk,h.ne,fun f' e=>by
  rcases List.mem_cons.1 e with rfl | e
  ·exact ⟨hP,ok,hd⟩
  ·exact h.fc f' e⟩
theorem Loc.get (h:Loc w0 w bs fs) (k:Nat) {f:Fct} (e:nth fs k=some f):f.P w:=(h.fc f (nth_mem e)).1
theorem Loc.less (h:Loc w0 w bs fs) (k:Nat):Loc w0 w bs (fs.drop k):=⟨h.K,h.bk,h.ne,fun f e=>h.fc f (List.mem_of_mem_drop e)⟩
/-- The facts that are left, in whatever order. -/
theorem Loc.only (h:Loc w0 w bs fs) {fs':List Fct} (e:∀ f,f∈fs'→f∈fs):Loc w0 w bs fs':=⟨h.K,h.bk,h.ne,fun f e'=>h.fc f (e f e')⟩
end
/-- The list doesn't lie in block g. -/
def Apart (k:Nat) (B:Option Addr):Prop:=∀ b o,B=some ⟨b,o,none⟩→b≠k
def iF (k:IntKind) (lo:Nat) (A:Option Addr) (n c:Nat) (xs:List Int):Fct:=⟨fun w=>IS k lo w A n c xs,fun b=>0<n∧∃ o,A=some ⟨b,o,none⟩⟩
def uF (A:Option Addr) (n c:Nat) (xs:List Nat):Fct:=⟨fun w=>US w A n c xs,fun b=>0<n∧∃ o,A=some ⟨b,o,none⟩⟩
theorem iF_ok (k:IntKind) (lo:Nat) (A:Option Addr) (n c:Nat) (xs:List Int):(iF k lo A n c xs).Ok :=
 ⟨fun w w' h hs hk=>IS.keep h hs fun b o hn e hb=>hk b hb ⟨hn,o,e⟩,fun w b h hf=>by
  obtain ⟨hn,o,e⟩:=hf
  obtain ⟨b',o',e',_,hl,_⟩:=IS.cells h hn
  rw [e] at e';injection e' with e';injection e' with e1 e2;omega⟩
theorem uF_ok (A:Option Addr) (n c:Nat) (xs:List Nat):(uF A n c xs).Ok :=
 ⟨fun w w' h hs hk=>by
  rcases Nat.eq_zero_or_pos n with h0 | h0
  ·exact ⟨h.len,h.cap,h.most,h.nil_,h.fit,fun hn=>absurd hn (by omega)⟩
  ·exact US.keep h hs fun b o e hb=>hk b hb ⟨h0,o,e⟩,fun w b h hf=>by
  obtain ⟨hn,o,e⟩:=hf
  obtain ⟨b',o',e',hl,_⟩:=US.cells h hn
  rw [e] at e';injection e' with e';injection e' with e1 e2;omega⟩
section
variable {w0 w w':World} {bs:List Bl} {fs:List Fct} {k:IntKind} {lo:Nat} {A:Option Addr} {n c:Nat} {xs:List Int} {ys:List Nat}
theorem Loc.is_new (h:Loc w0 w bs fs) (hl:∀ i b,nth bs i=some b→b.1<lo) (hI:IS k lo w A n c xs):Loc w0 w bs (iF k lo A n c xs :: fs) :=
 h.add _ hI (iF_ok _ _ _ _ _ _) fun i b e hf=>by
  obtain ⟨hn,o,e'⟩:=hf
  obtain ⟨b',o',e2,hlo,_⟩:=IS.cells hI hn
  have:=hl i b e
  rw [e'] at e2;injection e2 with e2;injection e2 with e3 e4;omega
theorem Loc.us_av (h:Loc w0 w bs fs) (hl:∀ i b,nth bs i=some b→Apart b.1 A) (hU:US w A n c ys):Loc w0 w bs (uF A n c ys :: fs) :=
 h.add _ hU (uF_ok _ _ _ _) fun i b e hf=>by
  obtain ⟨hn,o,e'⟩:=hf
  exact hl i b e _ _ e' rfl
theorem Loc.is_ (h:Loc w0 w bs fs) (j:Nat) (e:nth fs j=some (iF k lo A n c xs)):IS k lo w A n c xs:=h.get j e
theorem Loc.us_ (h:Loc w0 w bs fs) (j:Nat) (e:nth fs j=some (uF A n c ys)):US w A n c ys:=h.get j e
def ndel {α:Type}:List α→Nat→List α
 | [],_=>[]
 | _ :: l,0=>l
 | a :: l,k+1=>a :: ndel l k
theorem nth_ndel {α:Type}:∀ {l:List α} {i j:Nat} {x:α},nth (ndel l i) j=some x→nth l (if j<i then j else j+1)=some x
 | [],i,j,x,h=>by cases h
 | a :: l,0,j,x,h=>by rw [if_neg (by omega)];exact h
 | a :: l,i+1,0,x,h=>by rw [if_pos (by omega)];exact h
 | a :: l,i+1,j+1,x,h=>by
  have:=nth_ndel (l:=l) (i:=i) (j:=j) (by exact h)
  by_cases hj:j<i
  ·rw [if_pos hj] at this;rw [if_pos (by omega)];exact this
  ·rw [if_neg hj] at this;rw [if_neg (by omega)];exact this
/-- A block that is followed no more. -/
theorem Loc.del (h:Loc w0 w bs fs) (i:Nat):Loc w0 w (ndel bs i) fs :=
 ⟨h.K,fun j b e=>h.bk _ b (nth_ndel e),fun j k b b' e e' hjk=>h.ne _ _ b b' (nth_ndel e) (nth_ndel e') (by split <;> split <;> omega),fun f e=>⟨(h.fc f e).1,(h.fc f e).2.1,fun j b e'=>(h.fc f e).2.2 _ b (nth_ndel e')⟩⟩
theorem Loc.ap_ (h:Loc w0 w bs fs) (k:Nat) (e:nth fs k=some (uF A n c ys)) (hn:0<n):∀ i b,nth bs i=some b→Apart b.1 A:=fun i b e' b' o ea hb=>by
 subst hb
 exact (h.fc _ (nth_mem e)).2.2 i b e' ⟨hn,o,ea⟩
/-- A list of old lies in no block of the call's own. -/
theorem US.apart0 (hU:US w0 A n c ys) (hn:0<n) (h:Loc w0 w bs fs):∀ i b,nth bs i=some b→Apart b.1 A:=fun i b e b' o e'=>by
 obtain ⟨b2,o2,e2,hl,_⟩:=hU.cells hn
 have:=h.ges i b e
 rw [e'] at e2;injection e2 with e2;injection e2 with e3 e4;omega
theorem IS.apart0 (hU:IS k lo w0 A n c xs) (hn:0<n) (h:Loc w0 w bs fs):∀ i b,nth bs i=some b→Apart b.1 A:=fun i b e b' o e'=>by
 obtain ⟨b2,o2,e2,_,hl,_⟩:=hU.cells hn
 have:=h.ges i b e
 rw [e'] at e2;injection e2 with e2;injection e2 with e3 e4;omega
end
theorem US.here {w:World} {b o n c:Nat} {ys:List Nat} (h:US w (some ⟨b,o,none⟩) n c ys) {j:Nat} (hj:j<n):w.cell? ⟨b,o+j,none⟩=some (.int .u64 (gt ys j:Nat)):=by
 obtain ⟨b',o',e,_,hc⟩:=h.get hj
 injection e with e;injection e with e1 e2
 subst e1 e2
 exact hc
theorem IS.toUS {lo:Nat} {w:World} {A:Option Addr} {n c:Nat} {xs:List Int} (h:IS .u64 lo w A n c xs) (hf:∀ x∈xs,(Lit.int .u64 x).wf=true):US w A n c (xs.map Int.toNat):=by
 refine ⟨by simp [h.len],h.cap,h.most,h.nil_,?_,fun hn=>?_⟩
 ·intro x hx
  obtain ⟨y,hy,rfl⟩:=List.mem_map.1 hx
  obtain ⟨X,rfl,hX⟩:=wf_U64 (hf y hy)
  simpa using hX
 ·obtain ⟨b,o,e,_,hlt,hc⟩:=h.cells hn
  refine ⟨b,o,e,hlt,fun j hj=>(hc j hj).trans ?_⟩
  have hl:=h.len
  have hj':j<xs.length:=by omega
  obtain ⟨X,hX,_⟩:=wf_U64 (hf _ (gi_mem hj'))
  have:gt (xs.map Int.toNat) j=X:=by
   unfold gt
   rw [List.getD_eq_getElem?_getD,List.getElem?_map,List.getElem?_eq_getElem hj']
   rw [gi_at hj'] at hX
   simp [hX]
  rw [hX,this]
/-- The heap is at least so great. -/
def zF (lo:Nat):Fct:=⟨fun w=>lo≤w.heap.size,fun _=>False⟩
theorem Loc.sz {w0 w:World} {bs:List Bl} {fs:List Fct} (L:Loc w0 w bs fs) {lo:Nat} (h:lo≤w.heap.size):Loc w0 w bs (zF lo :: fs) :=
 L.add (zF lo) h ⟨fun w w' h hs _=>Nat.le_trans h hs,fun w b _ hf=>hf.elim⟩ fun _ _ _ hf=>hf.elim
theorem Loc.sz_ {w0 w:World} {bs:List Bl} {fs:List Fct} (L:Loc w0 w bs fs) (k:Nat) {lo:Nat} (e:nth fs k=some (zF lo)):lo≤w.heap.size:=L.get k e
/-- The four lists of an operation. -/
def lF (lo:Nat) (h:Hd) (l:Ls):List Fct:=[iF .u32 lo h.A0 h.n0 h.c0 l.rqs,iF .u32 lo h.A1 h.n1 h.c1 l.ads,iF .i64 lo h.A2 h.n2 h.c2 l.ers,iF .u64 lo h.A3 h.n3 h.c3 l.ses]
theorem Loc.lists {w0 w:World} {bs:List Bl} {fs:List Fct} {lo:Nat} {h:Hd} {l:Ls} (L:Loc w0 w bs fs) (hl:∀ i b,nth bs i=some b→b.1<lo) (H:Lists lo w h l):Loc w0 w bs (lF lo h l ++ fs) :=
 ((((L.is_new hl H.i3).is_new hl H.i2).is_new hl H.i1).is_new hl H.i0)
theorem Loc.gs {w0 w:World} {bs:List Bl} {fs:List Fct} (h:Loc w0 w bs fs):∀ g,g∈bs.map (·.1)→g<w.heap.size:=fun g hg=>by
 have aux:∀ {bs:List Bl},g∈bs.map (·.1)→∃ i b,nth bs i=some b∧b.1=g:=by
  intro bs
  induction bs with
  | nil=>intro h;cases h
  | cons b r ih =>
   intro h
   rcases List.mem_cons.1 h with e | h
   ·exact ⟨0,b,rfl,e.symm⟩
   ·obtain ⟨i,b',e1,e2⟩:=ih h
    exact ⟨i+1,b',e1,e2⟩
 obtain ⟨i,b,e,rfl⟩:=aux hg
 exact h.lts i b e
theorem nth_map {bs:List Bl} {i:Nat} {b:Bl} (e:nth bs i=some b):b.1∈bs.map (·.1):=List.mem_map.2 ⟨b,nth_mem e,rfl⟩
theorem Loc.lists' {w0 w:World} {bs:List Bl} {fs:List Fct} {lo:Nat} {h:Hd} {l:Ls} (L:Loc w0 w bs fs) (hl:∀ g,g∈bs.map (·.1)→g<lo) (H:Lists lo w h l):Loc w0 w bs (lF lo h l ++ fs) :=
 L.lists (fun i b e=>hl _ (nth_map e)) H
theorem Loc.lists_ {w0 w:World} {bs:List Bl} {fs:List Fct} {lo:Nat} {h:Hd} {l:Ls} (L:Loc w0 w bs fs) (e:∀ f,f∈lF lo h l→f∈fs):Lists lo w h l :=
 ⟨(L.fc _ (e (iF .u32 lo h.A0 h.n0 h.c0 l.rqs) (by simp [lF]))).1,(L.fc _ (e (iF .u32 lo h.A1 h.n1 h.c1 l.ads) (by simp [lF]))).1,(L.fc _ (e (iF .i64 lo h.A2 h.n2 h.c2 l.ers) (by simp [lF]))).1,(L.fc _ (e (iF .u64 lo h.A3 h.n3 h.c3 l.ses) (by simp [lF]))).1⟩
theorem Loc.lists_at {w0 w:World} {bs:List Bl} {fs:List Fct} {lo:Nat} {h:Hd} {l:Ls} (L:Loc w0 w bs fs) (k:Nat) {rest:List Fct} (e:fs.drop k=lF lo h l ++ rest):Lists lo w h l :=
 L.lists_ fun f hf=>List.mem_of_mem_drop (by rw [e];exact List.mem_append_left _ hf)
theorem Lists.lower_ {w:World} {lo lo':Nat} {h:Hd} {l:Ls} (H:Lists lo w h l) (hl:lo'≤lo):Lists lo' w h l:=⟨H.i0.lower hl,H.i1.lower hl,H.i2.lower hl,H.i3.lower hl⟩
/-- What is answered of cells: in new memory, or what was handed in. -/
theorem results_tct {P:Program} {fn:Func} {q p r:Tmp} {ty:TypeId} (h:fn.results=#[.tmp q,.cell p ty,.tmp r]) (tmps:Array Value) (w:World) (g:Nat) (t:TypeId) (cs:Array Value) (fr:Nat×Nat) (d:TypeDesc)
  (hp:tmps.getD p undef=.pointer (some ⟨g,0,none⟩)) (hg:w.heap[g]? = some (.cells cs t fr))
  (hu:P.underlying ty=some d) (hd:(match d with | .struct _ | .array _ _=>true | _=>false)=true) (hi:(P.info? ty).map (·.size)=some cs.size) :
  (results fn tmps).run P w=.ok (.tuple #[tmps.getD q undef,.agg cs,tmps.getD r undef]) w:=by
 have hp':tmps[p]?.getD undef=.pointer (some ⟨g,0,none⟩):=by simpa using hp
 simp [results,h,hp',asAddr,run_loadVar_row w g t ty cs fr d hg hu hd hi]
end Go.Proofs.YtfhefofkhmkcnaaGreatDoor

/-
  Short names for the steps of a walk with Loc. No condition.
-/
namespace Go.Proofs.YtfhefofkhmkcnaaGreatDoor
set_option maxRecDepth 100000
set_option maxRecDepth 100000
set_option maxRecDepth 100000
open Go.RowKit
theorem c3 {w : World} {g : Nat} {t : TypeId} {v0 v1 v2 : Value} (h : Bk w g t #[v0, v1, v2]) : w.cell? ⟨g, 0, none⟩ = some v0 ∧ w.cell? ⟨g, 1, none⟩ = some v1 ∧ w.cell? ⟨g, 2, none⟩ = some v2 ∧ g < w.heap.size := ⟨h.at_ 0 rfl, h.at_ 1 rfl, h.at_ 2 rfl, h.lt⟩
theorem c5 {w : World} {g : Nat} {t : TypeId} {v0 v1 v2 v3 v4 : Value} (h : Bk w g t #[v0, v1, v2, v3, v4]) : w.cell? ⟨g, 0, none⟩ = some v0 ∧ w.cell? ⟨g, 1, none⟩ = some v1 ∧ w.cell? ⟨g, 2, none⟩ = some v2 ∧ w.cell? ⟨g, 3, none⟩ = some v3 ∧ w.cell? ⟨g, 4, none⟩ = some v4 ∧ g < w.heap.size := ⟨h.at_ 0 rfl, h.at_ 1 rfl, h.at_ 2 rfl, h.at_ 3 rfl, h.at_ 4 rfl, h.lt⟩
theorem c7 {w : World} {g : Nat} {t : TypeId} {v0 v1 v2 v3 v4 v5 v6 : Value} (h : Bk w g t #[v0, v1, v2, v3, v4, v5, v6]) : w.cell? ⟨g, 0, none⟩ = some v0 ∧ w.cell? ⟨g, 1, none⟩ = some v1 ∧ w.cell? ⟨g, 2, none⟩ = some v2 ∧ w.cell? ⟨g, 3, none⟩ = some v3 ∧ w.cell? ⟨g, 4, none⟩ = some v4 ∧ w.cell? ⟨g, 5, none⟩ = some v5 ∧ w.cell? ⟨g, 6, none⟩ = some v6 ∧ g < w.heap.size := ⟨h.at_ 0 rfl, h.at_ 1 rfl, h.at_ 2 rfl, h.at_ 3 rfl, h.at_ 4 rfl, h.at_ 5 rfl, h.at_ 6 rfl, h.lt⟩
section
variable {w0 w w' : World} {bs : List Bl} {fs : List Fct} {g : Nat} {t t1 t2 t3 t4 : TypeId} {l l1 l2 l3 l4 : Array Value} {v : Value}
theorem Loc.a1 (L : Loc w0 w bs fs) (e : w.alloc (.cells l1 t1) = w') : Loc w0 w' ((w.heap.size, t1, l1) :: bs) fs := e ▸ L.alloc l1 t1
theorem Loc.a2 (L : Loc w0 w bs fs) (e : (w.alloc (.cells l1 t1)).alloc (.cells l2 t2) = w') : Loc w0 w' ((w.heap.size + 1, t2, l2) :: (w.heap.size, t1, l1) :: bs) fs := by
  have h := (L.alloc l1 t1).alloc l2 t2
  simp only [World.size_alloc] at h
  exact e ▸ h
theorem Loc.a3 (L : Loc w0 w bs fs) (e : ((w.alloc (.cells l1 t1)).alloc (.cells l2 t2)).alloc (.cells l3 t3) = w') : Loc w0 w' ((w.heap.size + 1 + 1, t3, l3) :: (w.heap.size + 1, t2, l2) :: (w.heap.size, t1, l1) :: bs) fs := by
  have h := ((L.alloc l1 t1).alloc l2 t2).alloc l3 t3
  simp only [World.size_alloc] at h
  exact e ▸ h
theorem Loc.a4 (L : Loc w0 w bs fs) (e : (((w.alloc (.cells l1 t1)).alloc (.cells l2 t2)).alloc (.cells l3 t3)).alloc (.cells l4 t4) = w') : Loc w0 w' ((w.heap.size + 1 + 1 + 1, t4, l4) :: (w.heap.size + 1 + 1, t3, l3) :: (w.heap.size + 1, t2, l2) :: (w.heap.size, t1, l1) :: bs) fs := by
  have h := (((L.alloc l1 t1).alloc l2 t2).alloc l3 t3).alloc l4 t4
  simp only [World.size_alloc] at h
  exact e ▸ h
theorem Loc.sc (L : Loc w0 w bs fs) (i : Nat) {o : Nat} (hi : nth bs i = some (g, t, l)) (e : w.setCell ⟨g, o, none⟩ v = w') : Loc w0 w' (nput bs i (g, t, l.setIfInBounds o v)) fs := e ▸ L.set i o hi v
theorem Loc.rr (L : Loc w0 w bs fs) (i : Nat) (hi : nth bs i = some (g, t, l)) (e : w.setRow g l1 = w') : Loc w0 w' (nput bs i (g, t, l1)) fs := e ▸ L.row i hi l1
theorem Loc.is0 (L : Loc w0 w ((g, t, l) :: bs) fs) (l9 : Array Value) (e : l = l9) : Loc w0 w ((g, t, l9) :: bs) fs := e ▸ L
theorem Loc.rr0 (L : Loc w0 w ((g, t, l) :: bs) fs) (e : w.setRow g l1 = w') : Loc w0 w' ((g, t, l1) :: bs) fs := L.rr 0 rfl e
theorem Loc.sc0 {o : Nat} {l9 : Array Value} (L : Loc w0 w ((g, t, l) :: bs) fs) (e : w.setCell ⟨g, o, none⟩ v = w') (e9 : l.setIfInBounds o v = l9) : Loc w0 w' ((g, t, l9) :: bs) fs := e9 ▸ L.sc 0 rfl e
theorem Loc.rr1 {b0 : Bl} (L : Loc w0 w (b0 :: (g, t, l) :: bs) fs) (e : w.setRow g l1 = w') : Loc w0 w' (b0 :: (g, t, l1) :: bs) fs := L.rr 1 rfl e
theorem Loc.sc1 {b0 : Bl} {o : Nat} {l9 : Array Value} (L : Loc w0 w (b0 :: (g, t, l) :: bs) fs) (e : w.setCell ⟨g, o, none⟩ v = w') (e9 : l.setIfInBounds o v = l9) : Loc w0 w' (b0 :: (g, t, l9) :: bs) fs := e9 ▸ L.sc 1 rfl e
theorem Loc.sc2 {b0 b1 : Bl} {o : Nat} {l9 : Array Value} (L : Loc w0 w (b0 :: b1 :: (g, t, l) :: bs) fs) (e : w.setCell ⟨g, o, none⟩ v = w') (e9 : l.setIfInBounds o v = l9) : Loc w0 w' (b0 :: b1 :: (g, t, l9) :: bs) fs := e9 ▸ L.sc 2 rfl e
theorem rg {P : Program} {ops : Array Oper} {Q : Exit → Act → World → Prop} {id : Nat} {a : Act} (L : Loc w0 w bs fs) (h : ∀ v, Loc w0 v bs fs → wpAnyH P .any ops Q (fun w' => Loc w0 w' bs fs) ops.size (Array.replicate ops.size false) a v) (hm : P.follows .mixedOrders = true := by kernel_rfl) : (Code.region id ops true).wp P Q a w :=
  wp_region_held_drew (S := fun w' => Loc w0 w' bs fs) hm L.drew (fun h' => h _ h')
end
section
variable {w0 w w2 : World} {bs : List Bl} {fs : List Fct} {lo : Nat}
/-- A block that is known whole, as a fact. -/
def bF (g : Nat) (t : TypeId) (d : Array Value) : Fct := ⟨fun w => Bk w g t d, fun b => b = g⟩
theorem bF_ok {g : Nat} {t : TypeId} {d : Array Value} : (bF g t d).Ok :=
  ⟨fun w w' h hs hk => (hk g h.lt rfl).trans h, fun w b h e => by subst e; exact h.lt⟩
theorem Loc.bkf {g : Nat} {t : TypeId} {d : Array Value} (L : Loc w0 w bs fs) (hl : ∀ i b, nth bs i = some b → b.1 < lo) (hg : lo ≤ g) (h : Bk w g t d) : Loc w0 w bs (bF g t d :: fs) :=
  L.add _ h bF_ok fun i b e e' => by have := hl i b e; have : b.1 = g := e'; omega
end
section
variable {P : Program} {ops : Array Oper} {Q : Exit → Act → World → Prop} {md : Region.Mode} {fuel : Nat} {listed : Array Bool} {l l' : List Value} {ds : _} {w0 w : World} {bs : List Bl} {fs : List Fct} {g : Nat} {t : TypeId} {cs : Array Value} {v : Value}
theorem nth_at {α : Type} : ∀ {l : List α} {i : Nat} {x : α}, nth l i = some x → l[i]? = some x
  | [], _, _, h => by cases h
  | _ :: _, 0, _, h => h
  | _ :: l, i + 1, _, h => by rw [List.getElem?_cons_succ]; exact nth_at (l := l) h
/-- A cell that is read. -/
theorem tC (i d bi o : Nat) {x1 : Op} {x2 : TypeId} {x3 x4 x5} (hi : ops[i]? = some ⟨some d, x1, x2, x3, x4, x5⟩) (hb : nth bs bi = some (g, t, cs)) (hv : nth cs.toList o = some v) (hS : Loc w0 w bs fs) (h : wpAnyH P md ops Q (fun w' => Loc w0 w' bs fs) fuel (listed.setIfInBounds i true) ⟨l'.toArray, ds⟩ w)
    (hy : ∀ ww : World, ww.cell? ⟨g, o, none⟩ = some v → g < ww.heap.size → (execOp (Act.eval ⟨l.toArray, ds⟩) ⟨some d, x1, x2, x3, x4, x5⟩).run P ww = .ok (.value v) ww := by intro ww O O_z; go_simp; (try with_reducible rfl); try omega)
    (hl : l.set d v = l' := by first | (simp only [sZ, sS]; done) | (simp only [sZ, sS]; rfl)) (hs : Region.noSelect ops = true := by kernel_rfl) (hf : Region.free md ops listed i = true := by kernel_rfl) (hr : (Region.ready md ops listed).contains i = true := by kernel_rfl) (hQ : ∀ c a w, Q (.panic c) (a.put (some d) v) w → Q (.panic c) a w := by exact fun _ _ _ h => h) (hw : Region.wanted ⟨some d, x1, x2, x3, x4, x5⟩ (yielded ops l.toArray) = true := by rfl) : wpAnyH P md ops Q (fun w' => Loc w0 w' bs fs) (fuel + 1) listed ⟨l.toArray, ds⟩ w :=
  ty i d v hi (fun ww hS => hy ww (hS.at_ bi o hb (by rw [← Array.getElem?_toList]; exact nth_at hv)) (hS.lt bi hb)) hS h hl hs hf hr hQ hw
/-- A block that is read whole. -/
theorem tR (i d q bi : Nat) {ty : TypeId} {x2 : TypeId} {x3 x4 x5} {u : TypeDesc} (hi : ops[i]? = some ⟨some d, .load ty (.tmp q), x2, x3, x4, x5⟩) (hb : nth bs bi = some (g, t, cs)) (hu : P.underlying ty = some u) (hz : (P.info? ty).map (·.size) = some cs.size) (hS : Loc w0 w bs fs) (h : wpAnyH P md ops Q (fun w' => Loc w0 w' bs fs) fuel (listed.setIfInBounds i true) ⟨l'.toArray, ds⟩ w)
    (hx : Act.eval ⟨l.toArray, ds⟩ (.tmp q) = .pointer (some ⟨g, 0, none⟩) := by exact rfl) (hd : (match u with | .struct _ | .array _ _ => true | _ => false) = true := by exact rfl)
    (hl : l.set d (.agg cs) = l' := by first | (simp only [sZ, sS]; done) | (simp only [sZ, sS]; rfl)) (hs : Region.noSelect ops = true := by kernel_rfl) (hf : Region.free md ops listed i = true := by kernel_rfl) (hr : (Region.ready md ops listed).contains i = true := by kernel_rfl) (hQ : ∀ c a w, Q (.panic c) (a.put (some d) (.agg cs)) w → Q (.panic c) a w := by exact fun _ _ _ h => h) (hw : Region.wanted ⟨some d, .load ty (.tmp q), x2, x3, x4, x5⟩ (yielded ops l.toArray) = true := by rfl) : wpAnyH P md ops Q (fun w' => Loc w0 w' bs fs) (fuel + 1) listed ⟨l.toArray, ds⟩ w :=
  tl i d _ hi (yieldsIf_load_row hw ty (.tmp q) rfl g hx t cs (0, 0) u (fun _ hS => hS.bk_ bi hb) hu hd hz) hS h hl hs hf hr hQ
end
section
variable {ops : Array Oper} {rest : List Oper} {o : Oper} {a : Act} {w : World} {Q : Exit → Act → World → Prop} {g : Nat} {t : TypeId} {cs old : Array Value} {h : Hd} {s : Sc} {c0 c1 c2 c3 c4 c5 c6 : Value}
/-- A configuration that is loaded; an operation; an operation that is stored. -/
theorem lC (q : Nat) (hb : Bk w g 27 #[c0, c1, c2, c3, c4, c5, c6]) (hk : wpList Tryz.prog ops Q rest (a.put o.dst (.agg #[c0, c1, c2, c3, c4, c5, c6])) w) (hgd : o.guard = none := by exact rfl) (ho : o.op = .load 27 (.tmp q) := by exact rfl) (hx : a.eval (.tmp q) = .pointer (some ⟨g, 0, none⟩) := by exact rfl) : wpList Tryz.prog ops Q (o :: rest) a w :=
  wpList_load_row hgd _ _ ho g hx _ _ (0, 0) _ hb Tryz.underlying27 rfl cf_sz hk
theorem lO (q : Nat) (hb : Bk w g 43 (opv h s)) (hk : wpList Tryz.prog ops Q rest (a.put o.dst (.agg (opv h s))) w) (hgd : o.guard = none := by exact rfl) (ho : o.op = .load 43 (.tmp q) := by exact rfl) (hx : a.eval (.tmp q) = .pointer (some ⟨g, 0, none⟩) := by exact rfl) : wpList Tryz.prog ops Q (o :: rest) a w :=
  wpList_load_row hgd _ _ ho g hx _ _ (0, 0) _ hb Tryz.underlying43 rfl op_sz hk
theorem sO (q y : Nat) (hb : Bk w g 43 old) (hx : a.eval (.tmp q) = .pointer (some ⟨g, 0, none⟩)) (hy : a.eval (.tmp y) = .agg (opv h s)) (hk : wpList Tryz.prog ops Q rest (a.put o.dst undef) (w.setRow g (opv h s))) (hgd : o.guard = none := by exact rfl) (ho : o.op = .store 43 (.tmp q) (.tmp y) := by exact rfl) (hz : old.size = (opv h s).size := by exact rfl) : wpList Tryz.prog ops Q (o :: rest) a w :=
  wpList_store_row hgd _ _ _ ho g _ hx hy _ _ hb op_sz hz (opv_one _ _) hk
end
theorem res_tc {P : Program} {fn : Func} {q p : Tmp} {ty : TypeId} (h : fn.results = #[.tmp q, .cell p ty]) (tmps : Array Value) (w : World) (g : Nat) (t : TypeId) (cs : Array Value) (fr : Nat × Nat) (d : TypeDesc)
    (hp : tmps.getD p undef = .pointer (some ⟨g, 0, none⟩)) (hg : w.heap[g]? = some (.cells cs t fr))
    (hu : P.underlying ty = some d) (hd : (match d with | .struct _ | .array _ _ => true | _ => false) = true) (hi : (P.info? ty).map (·.size) = some cs.size) :
    (results fn tmps).run P w = .ok (.tuple #[tmps.getD q undef, .agg cs]) w := by
  have hp' : tmps[p]?.getD undef = .pointer (some ⟨g, 0, none⟩) := by simpa using hp
  simp [results, h, hp', asAddr, run_loadVar_row w g t ty cs fr d hg hu hd hi]
section
variable {fn : Func} {R : Ending → World → Prop} {a : Act} {w : World} {p q r : Tmp} {g : Nat} {h : Hd} {s : Sc}
/-- Returns: an operation in a cell, alone and beside others. -/
theorem eC (hf : fn.results = #[.cell p 43]) (hb : Bk w g 43 (opv h s)) (hR : R (.returned (.agg (opv h s))) w) (hp : a.tmps.getD p undef = .pointer (some ⟨g, 0, none⟩) := by exact rfl) (hd : a.defers = [] := by exact rfl) : bodyPost Tryz.prog fn R .ret a w :=
  bodyPost_ret (results_cell_row hf _ _ g _ _ (0, 0) _ hp hb Tryz.underlying43 rfl op_sz) hd hR
theorem eTC (hf : fn.results = #[.tmp q, .cell p 43]) (u : Value) (hb : Bk w g 43 (opv h s)) (hR : R (.returned (.tuple #[u, .agg (opv h s)])) w) (hp : a.tmps.getD p undef = .pointer (some ⟨g, 0, none⟩) := by exact rfl) (hu : a.tmps.getD q undef = u := by exact rfl) (hd : a.defers = [] := by exact rfl) : bodyPost Tryz.prog fn R .ret a w :=
  bodyPost_ret (res_tc hf _ _ g _ _ (0, 0) _ hp hb Tryz.underlying43 rfl op_sz) hd (hu ▸ hR)
theorem eTCT (hf : fn.results = #[.tmp q, .cell p 43, .tmp r]) (u v : Value) (hb : Bk w g 43 (opv h s)) (hR : R (.returned (.tuple #[u, .agg (opv h s), v])) w) (hp : a.tmps.getD p undef = .pointer (some ⟨g, 0, none⟩) := by exact rfl) (hu : a.tmps.getD q undef = u := by exact rfl) (hv : a.tmps.getD r undef = v := by exact rfl) (hd : a.defers = [] := by exact rfl) : bodyPost Tryz.prog fn R .ret a w :=
  bodyPost_ret (results_tct hf _ _ g _ _ (0, 0) _ hp hb Tryz.underlying43 rfl op_sz) hd (by rw [hu, hv]; exact hR)
theorem res_ct {P : Program} {fn : Func} {q p : Tmp} {ty : TypeId} (h : fn.results = #[.cell p ty, .tmp q]) (tmps : Array Value) (w : World) (g : Nat) (t : TypeId) (cs : Array Value) (fr : Nat × Nat) (d : TypeDesc)
    (hp : tmps.getD p undef = .pointer (some ⟨g, 0, none⟩)) (hg : w.heap[g]? = some (.cells cs t fr))
    (hu : P.underlying ty = some d) (hd : (match d with | .struct _ | .array _ _ => true | _ => false) = true) (hi : (P.info? ty).map (·.size) = some cs.size) :
    (results fn tmps).run P w = .ok (.tuple #[.agg cs, tmps.getD q undef]) w := by
  have hp' : tmps[p]?.getD undef = .pointer (some ⟨g, 0, none⟩) := by simpa using hp
  simp [results, h, hp', asAddr, run_loadVar_row w g t ty cs fr d hg hu hd hi]
theorem eCT (hf : fn.results = #[.cell p 43, .tmp q]) (u : Value) (hb : Bk w g 43 (opv h s)) (hR : R (.returned (.tuple #[.agg (opv h s), u])) w) (hp : a.tmps.getD p undef = .pointer (some ⟨g, 0, none⟩) := by exact rfl) (hu : a.tmps.getD q undef = u := by exact rfl) (hd : a.defers = [] := by exact rfl) : bodyPost Tryz.prog fn R .ret a w :=
  bodyPost_ret (res_ct hf _ _ g _ _ (0, 0) _ hp hb Tryz.underlying43 rfl op_sz) hd (hu ▸ hR)
end
end Go.Proofs.YtfhefofkhmkcnaaGreatDoor

/-
 What the document's May answers: whether a configuration may be. Conditions: a number that fits.
-/
namespace Go.Proofs.YtfhefofkhmkcnaaGreatDoor
set_option maxRecDepth 100000
set_option maxRecDepth 100000
set_option maxRecDepth 100000
open Go.RowKit
set_option maxHeartbeats 8000000
set_option linter.unusedVariables false
section
variable {w:World} {lo a M:Nat} {p sh wo qu tr:Int} {A:Option Addr} {n c:Nat} {xs:List Int}
theorem rmay_yes (ha:a<4294967296) (hM:Much a p M) (h:IS .i64 lo w A n c xs) (hn:n≤65536) (e0:decide ((64:Int)<(n:Int))=false) (e1:decide (sh<1)=false) (e2:decide (64<sh)=false) (e3:decide (wo<1)=false) (e4:decide (64<wo)=false) (e5:decide (qu<1)=false) (e6:decide (64<qu)=false) (e7:decide (tr<1)=false) (e8:decide (8<tr)=false) :
  Calls Tryz.prog 23 #[.agg #[.int .u32 a,.int .i64 p,.slice A n c,.int .i64 sh,.int .i64 wo,.int .i64 qu,.int .i64 tr]] w fun e w'=>e=.returned (.bool (risB M 0 xs))∧Below w.heap.size w w':=by
 have hl:=h.len
 have hm:=hM.most
 have T:=fun w=>Lib.hid (ramay_is (w:=w) ha hM.may)
 clear ha
 go_enter Tryz.func23,Tryz.ntmps23
 go_upto_region 1 with (fail)
 have L:=Loc.start w
 replace L:=(L).alloc #[.int .u32 (a:Int),.int .i64 p,.slice A n c,.int .i64 sh,.int .i64 wo,.int .i64 qu,.int .i64 tr] 27
 try simp only [World.size_alloc] at L
 try dsimp only [nput] at L
 generalize (w).alloc (.cells #[.int .u32 (a:Int),.int .i64 p,.slice A n c,.int .i64 sh,.int .i64 wo,.int .i64 qu,.int .i64 tr] 27)=w1 at L ⊢
 generalize w.heap.size=gH at L ⊢
 obtain ⟨H0,H1,H2,H3,H4,H5,H6,Hz⟩:=c7 (L.bk_ 0 rfl)
 go_wp2_with (refine (T _).out.mono ?_;rintro _ w2 ⟨rfl,K'⟩;clear H0 H1 H2 H3 H4 H5 H6 Hz;replace L:=L.over K';clear K';obtain ⟨H0,H1,H2,H3,H4,H5,H6,Hz⟩:=c7 (L.bk_ 0 rfl))
 clear H0 H1 H2 H3 H4 H5 H6 Hz e0 e1 e2 e3 e4 e5 e6 e7 e8 T
 go_loopw [3] (fun i wr=>∃ (k:Nat) (l:Int),k≤n∧i=.int .i64 k∧Loc w wr [(gH,27,#[.int .u32 (a:Int),.int .i64 p,.slice A n c,.int .i64 sh,.int .i64 wo,.int .i64 qu,.int .i64 tr])] []∧0≤l∧Hid (k=0→l=0)∧Hid (∀ j,k=j+1→l=gi xs j+1)∧Hid (risB M 0 xs=risB M l (xs.drop k))) (fun i _=>n - (intOf i).toNat)
 case atStart=>exact ⟨0,0,Nat.zero_le _,rfl,L,by omega,fun _=>rfl,(fun j hj=>by omega),rfl⟩
 case round =>
  clear L
  obtain ⟨k,l,hk,rfl,L,hl0,L0,L1,R⟩:=hrel
  by_cases hlt:k<n
  ·have R1:=R.out
   rw [drop_gi (by omega)] at R1
   obtain ⟨b,o,rfl,hb,hc⟩:=h.get hlt
   obtain ⟨y,hy⟩:∃ y,gi xs k=y:=⟨_,rfl⟩
   rw [hy] at hc R1
   have HYY:=Lib.hid hy
   have e9:(k:Int)<(n:Int):=by omega
   clear hy
   by_cases y0:y<0
   ·have E:risB M 0 xs=false:=by rw [R1,risB,if_pos (.inl (by omega))]
    have f1:decide (y<0)=true:=by simpa using y0
    clear R1 R y0
    have H_2:=L.at_ 0 2 rfl (v:=.slice (some ⟨b,o,none⟩) n c) rfl
    have H_z:=L.lt 0 rfl
    go_upto_region 6 with (fail)
    clear H_2 H_z
    refine rg L fun v2 hHeld=>?_
    replace L:=hHeld
    refine tg 0 61 (.pointer (some ⟨gH,2,none⟩)) rfl hHeld ?_
    refine tC 1 62 0 2 rfl rfl rfl hHeld ?_
    refine tg 2 63 (.int .i64 (k:Int)) rfl hHeld ?_
    refine tg 3 64 (.pointer (some ⟨b,o+k,none⟩)) rfl hHeld ?_
    refine ty 4 65 (.int .i64 y) rfl ?_ hHeld ?_
    ·intro ww hS
     try dsimp only at hS
     have X:=((hS).K.cell (p:=⟨b,o+k,none⟩) hb).trans hc
     go_simp
     try with_reducible rfl
     try omega
    refine tg 5 66 (.bool true) rfl hHeld ?_
    refine tg 6 67 (.bool true) rfl hHeld ?_
    refine tn 7 68 rfl hHeld ?_
    refine tn 8 69 rfl hHeld ?_
    refine tn 9 70 rfl hHeld ?_
    refine tn 10 71 rfl hHeld ?_
    refine tn 11 72 rfl hHeld ?_
    refine tn 12 73 rfl hHeld ?_
    refine tn 13 74 rfl hHeld ?_
    refine tn 14 75 rfl hHeld ?_
    refine tn 15 76 rfl hHeld ?_
    refine tg 16 77 (.bool true) rfl hHeld ?_
    refine tg 17 78 (.bool true) rfl hHeld ?_
    refine tn 18 79 rfl hHeld ?_
    refine tn 19 80 rfl hHeld ?_
    refine tn 20 81 rfl hHeld ?_
    refine tn 21 82 rfl hHeld ?_
    refine tn 22 83 rfl hHeld ?_
    refine tn 23 84 rfl hHeld ?_
    refine tn 24 85 rfl hHeld ?_
    refine tn 25 86 rfl hHeld ?_
    refine tn 26 87 rfl hHeld ?_
    refine tn 27 88 rfl hHeld ?_
    refine tn 28 89 rfl hHeld ?_
    refine tn 29 90 rfl hHeld ?_
    refine tn 30 91 rfl hHeld ?_
    refine tn 31 92 rfl hHeld ?_
    refine tn 32 93 rfl hHeld ?_
    refine tn 33 94 rfl hHeld ?_
    refine tg 34 95 (.bool true) rfl hHeld ?_
    refine wpAnyH_done (by kernel_rfl) ?_ _
    clear hHeld
    go_wp2
    go_ret
    exact ⟨by first | rfl | exact ret_bool E.symm,L.K⟩
   ·by_cases y1:(M:Int)≤y
    ·have E:risB M 0 xs=false:=by rw [R1,risB,if_pos (.inr y1)]
     have f1:decide (y<0)=false:=by simpa using y0
     have f2:decide ((M:Int)≤y)=true:=by simpa using y1
     clear R1 R y0 y1
     have H_2:=L.at_ 0 2 rfl (v:=.slice (some ⟨b,o,none⟩) n c) rfl
     have H_z:=L.lt 0 rfl
     go_upto_region 6 with (fail)
     clear H_2 H_z
     refine rg L fun v2 hHeld=>?_
     replace L:=hHeld
     refine tg 0 61 (.pointer (some ⟨gH,2,none⟩)) rfl hHeld ?_
     refine tC 1 62 0 2 rfl rfl rfl hHeld ?_
     refine tg 2 63 (.int .i64 (k:Int)) rfl hHeld ?_
     refine tg 3 64 (.pointer (some ⟨b,o+k,none⟩)) rfl hHeld ?_
     refine ty 4 65 (.int .i64 y) rfl ?_ hHeld ?_
     ·intro ww hS
      try dsimp only at hS
      have X:=((hS).K.cell (p:=⟨b,o+k,none⟩) hb).trans hc
      go_simp
      try with_reducible rfl
      try omega
     refine tg 5 66 (.bool false) rfl hHeld ?_
     refine tg 6 67 (.bool false) rfl hHeld ?_
     refine tg 7 68 (.pointer (some ⟨gH,2,none⟩)) rfl hHeld ?_
     refine tC 8 69 0 2 rfl rfl rfl hHeld ?_
     refine tg 9 70 (.int .i64 (k:Int)) rfl hHeld ?_
     refine tg 10 71 (.pointer (some ⟨b,o+k,none⟩)) rfl hHeld ?_
     refine ty 11 72 (.int .i64 y) rfl ?_ hHeld ?_
     ·intro ww hS
      try dsimp only at hS
      have X:=((hS).K.cell (p:=⟨b,o+k,none⟩) hb).trans hc
      go_simp
      try with_reducible rfl
      try omega
     refine tg 12 73 (.pointer (some ⟨gH,0,none⟩)) rfl hHeld ?_
     refine ty 13 74 (.agg #[.int .u32 (a:Int),.int .i64 p]) rfl ?_ hHeld ?_
     ·intro ww hS
      try dsimp only at hS
      have H_0:=(hS).at_ 0 0 rfl (v:=.int .u32 (a:Int)) rfl
      have H_z:=(hS).lt 0 rfl
      have H_1:=(hS).at_ 0 1 rfl (v:=.int .i64 p) rfl
      have H_z:=(hS).lt 0 rfl
      go_simp
      try with_reducible rfl
      try omega
     refine rd 14 75 rfl fun K0 hK=>?_
     go_simp
     refine (rmany_yes hM).mono ?_
     rintro e w3 ⟨rfl,K'⟩
     replace L:=L.over K'
     refine hK.out _ _ L ?_
     clear hHeld hK K0
     intro hHeld
     clear K'
     try simp only [Act.put,sA,sZ,sS]
     refine tg 15 76 (.bool true) rfl hHeld ?_
     refine tg 16 77 (.bool true) rfl hHeld ?_
     refine tg 17 78 (.bool true) rfl hHeld ?_
     refine tn 18 79 rfl hHeld ?_
     refine tn 19 80 rfl hHeld ?_
     refine tn 20 81 rfl hHeld ?_
     refine tn 21 82 rfl hHeld ?_
     refine tn 22 83 rfl hHeld ?_
     refine tn 23 84 rfl hHeld ?_
     refine tn 24 85 rfl hHeld ?_
     refine tn 25 86 rfl hHeld ?_
     refine tn 26 87 rfl hHeld ?_
     refine tn 27 88 rfl hHeld ?_
     refine tn 28 89 rfl hHeld ?_
     refine tn 29 90 rfl hHeld ?_
     refine tn 30 91 rfl hHeld ?_
     refine tn 31 92 rfl hHeld ?_
     refine tn 32 93 rfl hHeld ?_
     refine tn 33 94 rfl hHeld ?_
     refine tg 34 95 (.bool true) rfl hHeld ?_
     refine wpAnyH_done (by kernel_rfl) ?_ _
     clear hHeld
     go_wp2
     go_ret
     exact ⟨by first | rfl | exact ret_bool E.symm,L.K⟩
    ·by_cases k0:k=0
     ·have l0:=L0.out k0
      have f0:decide ((0:Int)<(k:Int))=false:=by simp;omega
      have kp:=Lib.hid k0
      have R2:Hid (risB M 0 xs=risB M (y+1) (xs.drop (k+1))):=by show _=_;rw [R1,risB,if_neg (by omega)]
      have f1:decide (y<0)=false:=by simpa using y0
      have f2:decide ((M:Int)≤y)=false:=by simpa using y1
      clear R1 R k0
      have H_2:=L.at_ 0 2 rfl (v:=.slice (some ⟨b,o,none⟩) n c) rfl
      have H_z:=L.lt 0 rfl
      go_upto_region 6 with (fail)
      clear H_2 H_z
      refine rg L fun v2 hHeld=>?_
      replace L:=hHeld
      refine tg 0 61 (.pointer (some ⟨gH,2,none⟩)) rfl hHeld ?_
      refine tC 1 62 0 2 rfl rfl rfl hHeld ?_
      refine tg 2 63 (.int .i64 (k:Int)) rfl hHeld ?_
      refine tg 3 64 (.pointer (some ⟨b,o+k,none⟩)) rfl hHeld ?_
      refine ty 4 65 (.int .i64 y) rfl ?_ hHeld ?_
      ·intro ww hS
       try dsimp only at hS
       have X:=((hS).K.cell (p:=⟨b,o+k,none⟩) hb).trans hc
       go_simp
       try with_reducible rfl
       try omega
      refine tg 5 66 (.bool false) rfl hHeld ?_
      refine tg 6 67 (.bool false) rfl hHeld ?_
      refine tg 7 68 (.pointer (some ⟨gH,2,none⟩)) rfl hHeld ?_
      refine tC 8 69 0 2 rfl rfl rfl hHeld ?_
      refine tg 9 70 (.int .i64 (k:Int)) rfl hHeld ?_
      refine tg 10 71 (.pointer (some ⟨b,o+k,none⟩)) rfl hHeld ?_
      refine ty 11 72 (.int .i64 y) rfl ?_ hHeld ?_
      ·intro ww hS
       try dsimp only at hS
       have X:=((hS).K.cell (p:=⟨b,o+k,none⟩) hb).trans hc
       go_simp
       try with_reducible rfl
       try omega
      refine tg 12 73 (.pointer (some ⟨gH,0,none⟩)) rfl hHeld ?_
      refine ty 13 74 (.agg #[.int .u32 (a:Int),.int .i64 p]) rfl ?_ hHeld ?_
      ·intro ww hS
       try dsimp only at hS
       have H_0:=(hS).at_ 0 0 rfl (v:=.int .u32 (a:Int)) rfl
       have H_z:=(hS).lt 0 rfl
       have H_1:=(hS).at_ 0 1 rfl (v:=.int .i64 p) rfl
       have H_z:=(hS).lt 0 rfl
       go_simp
       try with_reducible rfl
       try omega
      refine rd 14 75 rfl fun K0 hK=>?_
      go_simp
      refine (rmany_yes hM).mono ?_
      rintro e w3 ⟨rfl,K'⟩
      replace L:=L.over K'
      refine hK.out _ _ L ?_
      clear hHeld hK K0
      intro hHeld
      clear K'
      try simp only [Act.put,sA,sZ,sS]
      refine tg 15 76 (.bool false) rfl hHeld ?_
      refine tg 16 77 (.bool false) rfl hHeld ?_
      refine tg 17 78 (.bool false) rfl hHeld ?_
      refine tg 18 79 (.int .i64 (k:Int)) rfl hHeld ?_
      refine ty 19 80 (.bool false) rfl ?_ hHeld ?_
      ·intro ww hS
       try dsimp only at hS
       have k0:=kp.out
       go_simp
       try with_reducible rfl
       try omega
      refine tg 20 81 (.bool false) rfl hHeld ?_
      refine tn 21 82 rfl hHeld ?_
      refine tn 22 83 rfl hHeld ?_
      refine tn 23 84 rfl hHeld ?_
      refine tn 24 85 rfl hHeld ?_
      refine tn 25 86 rfl hHeld ?_
      refine tn 26 87 rfl hHeld ?_
      refine tn 27 88 rfl hHeld ?_
      refine tn 28 89 rfl hHeld ?_
      refine tn 29 90 rfl hHeld ?_
      refine tn 30 91 rfl hHeld ?_
      refine tn 31 92 rfl hHeld ?_
      refine tn 32 93 rfl hHeld ?_
      refine tg 33 94 (.bool false) rfl hHeld ?_
      refine tg 34 95 (.bool false) rfl hHeld ?_
      refine wpAnyH_done (by kernel_rfl) ?_ _
      clear hHeld
      go_wp2
      go_roundw
      case rel=>exact ⟨k+1,y+1,by omega,by go_num,L,by omega,(fun h=>absurd h (by omega)),(fun j' hj'=>by rw [show j'=k from (by omega),HYY.out]),R2⟩
      case measure=>simp [intOf];omega
     ·obtain ⟨j,hj⟩:∃ j,k=j+1:=⟨k - 1,by omega⟩
      have l1:=L1.out j hj
      have f0:decide ((0:Int)<(k:Int))=true:=by simp;omega
      have f5:(k:Int) - 1=(j:Int):=by omega
      have f6:IntKind.i64.wrap (j:Int)=(j:Int):=IntWalk.i64_in _ (by omega)
      have f7:(j:Int)<(n:Int):=by omega
      obtain ⟨b',o',e,hb2,hc2⟩:=h.get (j:=j) (by omega)
      injection e with e
      injection e with e1 e2
      subst e1;subst e2
      obtain ⟨z,hz⟩:∃ z,gi xs j=z:=⟨_,rfl⟩
      rw [hz] at hc2 l1
      replace hj:=Lib.hid hj
      have kp:Hid (0<k):=(by omega:0<k)
      clear k0 hz
      by_cases y2:y≤z
      ·have E:risB M 0 xs=false:=by rw [R1,risB,if_pos (.inl (by omega))]
       have f1:decide (y<0)=false:=by simpa using y0
       have f2:decide ((M:Int)≤y)=false:=by simpa using y1
       have f3:decide (y≤z)=true:=by simpa using y2
       clear R1 R y0 y1 y2 l1 L1
       have H_2:=L.at_ 0 2 rfl (v:=.slice (some ⟨b,o,none⟩) n c) rfl
       have H_z:=L.lt 0 rfl
       go_upto_region 6 with (fail)
       clear H_2 H_z
       refine rg L fun v2 hHeld=>?_
       replace L:=hHeld
       refine tg 0 61 (.pointer (some ⟨gH,2,none⟩)) rfl hHeld ?_
       refine tC 1 62 0 2 rfl rfl rfl hHeld ?_
       refine tg 2 63 (.int .i64 (k:Int)) rfl hHeld ?_
       refine tg 3 64 (.pointer (some ⟨b,o+k,none⟩)) rfl hHeld ?_
       refine ty 4 65 (.int .i64 y) rfl ?_ hHeld ?_
       ·intro ww hS
        try dsimp only at hS
        have X:=((hS).K.cell (p:=⟨b,o+k,none⟩) hb).trans hc
        go_simp
        try with_reducible rfl
        try omega
       refine tg 5 66 (.bool false) rfl hHeld ?_
       refine tg 6 67 (.bool false) rfl hHeld ?_
       refine tg 7 68 (.pointer (some ⟨gH,2,none⟩)) rfl hHeld ?_
       refine tC 8 69 0 2 rfl rfl rfl hHeld ?_
       refine tg 9 70 (.int .i64 (k:Int)) rfl hHeld ?_
       refine tg 10 71 (.pointer (some ⟨b,o+k,none⟩)) rfl hHeld ?_
       refine ty 11 72 (.int .i64 y) rfl ?_ hHeld ?_
       ·intro ww hS
        try dsimp only at hS
        have X:=((hS).K.cell (p:=⟨b,o+k,none⟩) hb).trans hc
        go_simp
        try with_reducible rfl
        try omega
       refine tg 12 73 (.pointer (some ⟨gH,0,none⟩)) rfl hHeld ?_
       refine ty 13 74 (.agg #[.int .u32 (a:Int),.int .i64 p]) rfl ?_ hHeld ?_
       ·intro ww hS
        try dsimp only at hS
        have H_0:=(hS).at_ 0 0 rfl (v:=.int .u32 (a:Int)) rfl
        have H_z:=(hS).lt 0 rfl
        have H_1:=(hS).at_ 0 1 rfl (v:=.int .i64 p) rfl
        have H_z:=(hS).lt 0 rfl
        go_simp
        try with_reducible rfl
        try omega
       refine rd 14 75 rfl fun K0 hK=>?_
       go_simp
       refine (rmany_yes hM).mono ?_
       rintro e w3 ⟨rfl,K'⟩
       replace L:=L.over K'
       refine hK.out _ _ L ?_
       clear hHeld hK K0
       intro hHeld
       clear K'
       try simp only [Act.put,sA,sZ,sS]
       refine tg 15 76 (.bool false) rfl hHeld ?_
       refine tg 16 77 (.bool false) rfl hHeld ?_
       refine tg 17 78 (.bool false) rfl hHeld ?_
       refine tg 18 79 (.int .i64 (k:Int)) rfl hHeld ?_
       refine ty 19 80 (.bool true) rfl ?_ hHeld ?_
       ·intro ww hS
        try dsimp only at hS
        have k0:=kp.out
        go_simp
        try with_reducible rfl
        try omega
       refine tg 20 81 (.bool true) rfl hHeld ?_
       refine tg 21 82 (.pointer (some ⟨gH,2,none⟩)) rfl hHeld ?_
       refine tC 22 83 0 2 rfl rfl rfl hHeld ?_
       refine tg 23 84 (.int .i64 (k:Int)) rfl hHeld ?_
       refine tg 24 85 (.pointer (some ⟨b,o+k,none⟩)) rfl hHeld ?_
       refine ty 25 86 (.int .i64 y) rfl ?_ hHeld ?_
       ·intro ww hS
        try dsimp only at hS
        have X:=((hS).K.cell (p:=⟨b,o+k,none⟩) hb).trans hc
        go_simp
        try with_reducible rfl
        try omega
       refine tg 26 87 (.pointer (some ⟨gH,2,none⟩)) rfl hHeld ?_
       refine tC 27 88 0 2 rfl rfl rfl hHeld ?_
       refine tg 28 89 (.int .i64 (k:Int)) rfl hHeld ?_
       refine tg 29 90 (.int .i64 (j:Int)) rfl hHeld ?_
       refine tg 30 91 (.pointer (some ⟨b,o+j,none⟩)) rfl hHeld ?_
       refine ty 31 92 (.int .i64 z) rfl ?_ hHeld ?_
       ·intro ww hS
        try dsimp only at hS
        have X:=((hS).K.cell (p:=⟨b,o+j,none⟩) hb2).trans hc2
        go_simp
        try with_reducible rfl
        try omega
       refine tg 32 93 (.bool true) rfl hHeld ?_
       refine tg 33 94 (.bool true) rfl hHeld ?_
       refine tg 34 95 (.bool true) rfl hHeld ?_
       refine wpAnyH_done (by kernel_rfl) ?_ _
       clear hHeld
       go_wp2
       go_ret
       exact ⟨by first | rfl | exact ret_bool E.symm,L.K⟩
      ·have R2:Hid (risB M 0 xs=risB M (y+1) (xs.drop (k+1))):=by show _=_;rw [R1,risB,if_neg (by omega)]
       have f1:decide (y<0)=false:=by simpa using y0
       have f2:decide ((M:Int)≤y)=false:=by simpa using y1
       have f3:decide (y≤z)=false:=by simpa using y2
       clear R1 R l1 L1 L0
       have H_2:=L.at_ 0 2 rfl (v:=.slice (some ⟨b,o,none⟩) n c) rfl
       have H_z:=L.lt 0 rfl
       go_upto_region 6 with (fail)
       clear H_2 H_z
       refine rg L fun v2 hHeld=>?_
       replace L:=hHeld
       refine tg 0 61 (.pointer (some ⟨gH,2,none⟩)) rfl hHeld ?_
       refine tC 1 62 0 2 rfl rfl rfl hHeld ?_
       refine tg 2 63 (.int .i64 (k:Int)) rfl hHeld ?_
       refine tg 3 64 (.pointer (some ⟨b,o+k,none⟩)) rfl hHeld ?_
       refine ty 4 65 (.int .i64 y) rfl ?_ hHeld ?_
       ·intro ww hS
        try dsimp only at hS
        have X:=((hS).K.cell (p:=⟨b,o+k,none⟩) hb).trans hc
        go_simp
        try with_reducible rfl
        try omega
       refine tg 5 66 (.bool false) rfl hHeld ?_
       refine tg 6 67 (.bool false) rfl hHeld ?_
       refine tg 7 68 (.pointer (some ⟨gH,2,none⟩)) rfl hHeld ?_
       refine tC 8 69 0 2 rfl rfl rfl hHeld ?_
       refine tg 9 70 (.int .i64 (k:Int)) rfl hHeld ?_
       refine tg 10 71 (.pointer (some ⟨b,o+k,none⟩)) rfl hHeld ?_
       refine ty 11 72 (.int .i64 y) rfl ?_ hHeld ?_
       ·intro ww hS
        try dsimp only at hS
        have X:=((hS).K.cell (p:=⟨b,o+k,none⟩) hb).trans hc
        go_simp
        try with_reducible rfl
        try omega
       refine tg 12 73 (.pointer (some ⟨gH,0,none⟩)) rfl hHeld ?_
       refine ty 13 74 (.agg #[.int .u32 (a:Int),.int .i64 p]) rfl ?_ hHeld ?_
       ·intro ww hS
        try dsimp only at hS
        have H_0:=(hS).at_ 0 0 rfl (v:=.int .u32 (a:Int)) rfl
        have H_z:=(hS).lt 0 rfl
        have H_1:=(hS).at_ 0 1 rfl (v:=.int .i64 p) rfl
        have H_z:=(hS).lt 0 rfl
        go_simp
        try with_reducible rfl
        try omega
       refine rd 14 75 rfl fun K0 hK=>?_
       go_simp
       refine (rmany_yes hM).mono ?_
       rintro e w3 ⟨rfl,K'⟩
       replace L:=L.over K'
       refine hK.out _ _ L ?_
       clear hHeld hK K0
       intro hHeld
       clear K'
       try simp only [Act.put,sA,sZ,sS]
       refine tg 15 76 (.bool false) rfl hHeld ?_
       refine tg 16 77 (.bool false) rfl hHeld ?_
       refine tg 17 78 (.bool false) rfl hHeld ?_
       refine tg 18 79 (.int .i64 (k:Int)) rfl hHeld ?_
       refine ty 19 80 (.bool true) rfl ?_ hHeld ?_
       ·intro ww hS
        try dsimp only at hS
        have k0:=kp.out
        go_simp
        try with_reducible rfl
        try omega
       refine tg 20 81 (.bool true) rfl hHeld ?_
       refine tg 21 82 (.pointer (some ⟨gH,2,none⟩)) rfl hHeld ?_
       refine tC 22 83 0 2 rfl rfl rfl hHeld ?_
       refine tg 23 84 (.int .i64 (k:Int)) rfl hHeld ?_
       refine tg 24 85 (.pointer (some ⟨b,o+k,none⟩)) rfl hHeld ?_
       refine ty 25 86 (.int .i64 y) rfl ?_ hHeld ?_
       ·intro ww hS
        try dsimp only at hS
        have X:=((hS).K.cell (p:=⟨b,o+k,none⟩) hb).trans hc
        go_simp
        try with_reducible rfl
        try omega
       refine tg 26 87 (.pointer (some ⟨gH,2,none⟩)) rfl hHeld ?_
       refine tC 27 88 0 2 rfl rfl rfl hHeld ?_
       refine tg 28 89 (.int .i64 (k:Int)) rfl hHeld ?_
       refine tg 29 90 (.int .i64 (j:Int)) rfl hHeld ?_
       refine tg 30 91 (.pointer (some ⟨b,o+j,none⟩)) rfl hHeld ?_
       refine ty 31 92 (.int .i64 z) rfl ?_ hHeld ?_
       ·intro ww hS
        try dsimp only at hS
        have X:=((hS).K.cell (p:=⟨b,o+j,none⟩) hb2).trans hc2
        go_simp
        try with_reducible rfl
        try omega
       refine tg 32 93 (.bool false) rfl hHeld ?_
       refine tg 33 94 (.bool false) rfl hHeld ?_
       refine tg 34 95 (.bool false) rfl hHeld ?_
       refine wpAnyH_done (by kernel_rfl) ?_ _
       clear hHeld
       go_wp2
       go_roundw
       case rel=>exact ⟨k+1,y+1,by omega,by go_num,L,by omega,(fun h=>absurd h (by omega)),(fun j' hj'=>by rw [show j'=k from (by omega),HYY.out]),R2⟩
       case measure=>simp [intOf];omega
  ·have E:risB M 0 xs=true:=by rw [R.out,List.drop_of_length_le (by omega)];rfl
   have H2:=L.at_ 0 2 rfl (v:=.slice A n c) rfl
   have Hz:=L.lt 0 rfl
   go_wp2
   go_ret
   exact ⟨by first | rfl | exact ret_bool E.symm,L.K⟩
theorem zz {b:Bool} {X:Prop} (h:X):b=true∨b=false∧X:=by cases b <;> simp [h]
theorem rmay_any (ha:a<4294967296) (h:IS .i64 lo w A n c xs) :
  Calls Tryz.prog 23 #[.agg #[.int .u32 a,.int .i64 p,.slice A n c,.int .i64 sh,.int .i64 wo,.int .i64 qu,.int .i64 tr]] w fun e w'=>e=.returned (.bool (confB a p n xs sh wo qu tr))∧Below w.heap.size w w':=by
 have N:=Lib.hid (@confB_no a p sh wo qu tr n xs)
 obtain ⟨mb,hmb⟩:∃ mb,mayB a p=mb:=⟨_,rfl⟩
 have T:=fun w=>Lib.hid (ramay_is (w:=w) ha hmb)
 obtain ⟨C,hC⟩:∃ C,confB a p n xs sh wo qu tr=C:=⟨_,rfl⟩
 rw [hC]
 have Z:mb=false∨mb=true∧(decide ((64:Int)<(n:Int))=true∨decide ((64:Int)<(n:Int))=false∧(decide (sh<1)=true∨decide (sh<1)=false∧(decide (64<sh)=true∨decide (64<sh)=false∧(decide (wo<1)=true∨decide (wo<1)=false∧(decide (64<wo)=true∨decide (64<wo)=false∧(decide (qu<1)=true∨decide (qu<1)=false∧(decide (64<qu)=true∨decide (64<qu)=false∧(decide (tr<1)=true∨decide (tr<1)=false∧(decide (8<tr)=true∨decide (8<tr)=false∧(True)))))))))):=by
  cases mb with
  | false=>exact .inl rfl
  | true=>exact .inr ⟨rfl,zz (zz (zz (zz (zz (zz (zz (zz (zz (trivial)))))))))⟩
 rcases Z with rfl | ⟨rfl,e0 | ⟨e0,e1 | ⟨e1,e2 | ⟨e2,e3 | ⟨e3,e4 | ⟨e4,e5 | ⟨e5,e6 | ⟨e6,e7 | ⟨e7,e8 | ⟨e8,-⟩⟩⟩⟩⟩⟩⟩⟩⟩⟩
 rotate_right 1
 ·rw [← hC]
  have E:confB a p n xs sh wo qu tr=risB (2 ^ (32 - p.toNat):Nat) 0 xs:=by
   have m:=(Much.of hmb).manyI
   unfold confB confL someB
   rw [m]
   simp only [decide_eq_false_iff_not] at e0 e1 e2 e3 e4 e5 e6 e7 e8
   have c0:n≤64:=by omega
   have c1:1≤sh∧sh≤64:=by omega
   have c2:1≤wo∧wo≤64:=by omega
   have c3:1≤qu∧qu≤64:=by omega
   have c4:1≤tr∧tr≤8:=by omega
   have c5:(n:Int)≤64:=by omega
   simp [hmb,c1,c2,c3,c4,c5]
  rw [E]
  exact rmay_yes ha (Much.of hmb) h (by have:=of_decide_eq_false e0;omega) e0 e1 e2 e3 e4 e5 e6 e7 e8
 all_goals
  obtain rfl:C=false:=by
   rw [← hC,Bool.eq_false_iff]
   intro g
   have h:=N.out g
   first | (have h1:=h.1;rw [hmb] at h1;cases h1;done) | (simp only [decide_eq_true_eq] at *;omega)
  clear N hC hmb
  go_enter Tryz.func23,Tryz.ntmps23
  go_wp2_with fail
  have L:=Loc.start w
  generalize hal:World.alloc _ _=w1
  replace L:=L.a1 hal
  clear hal
  generalize w.heap.size=gH at L ⊢
  refine (T _).out.mono ?_
  rintro _ w2 ⟨rfl,K'⟩
  replace L:=L.over K'
  obtain ⟨H0,H1,H2,H3,H4,H5,H6,Hz⟩:=c7 (L.bk_ 0 rfl)
  go_wp2
  go_ret
  exact ⟨rfl,L.K⟩
theorem rmay_is {b:Bool} (ha:a<4294967296) (h:IS .i64 lo w A n c xs) (hb:confB a p n xs sh wo qu tr=b) :
  Calls Tryz.prog 23 #[.agg #[.int .u32 a,.int .i64 p,.slice A n c,.int .i64 sh,.int .i64 wo,.int .i64 qu,.int .i64 tr]] w fun e w'=>e=.returned (.bool b)∧Below w.heap.size w w':=by
 subst hb;exact rmay_any ha h
end
end Go.Proofs.YtfhefofkhmkcnaaGreatDoor
