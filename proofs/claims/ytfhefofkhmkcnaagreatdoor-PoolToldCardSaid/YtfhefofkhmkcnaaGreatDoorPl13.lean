/-
  What the functions that these laws call answer, and what follows of it; conditions: those that each theorem names. In this file: SeekIn, SeekOn, SeekFree, SeekStep, WordNew, WordCells, SweepMath, WordCellsNew.
-/
import Derived.Test.YtfhefofkhmkcnaaGreatDoorPl12
import Derived.OrdersIn
/-
 What a round of a loop over an iterator wants: blocks known whole,read and written,within a fence;what is known of a call's memory abides. No condition on the program.
-/
namespace Go.Proofs.YtfhefofkhmkcnaaGreatDoor
set_option maxRecDepth 100000
set_option maxRecDepth 100000
open Go.RowKit Go.Shelf
set_option linter.unusedVariables false
section
variable {F:Fence} {nF:Nat} {P:Program} {ops:Array Oper} {rest:List Oper} {o:Oper} {a:Act} {w:World} {Q:Exit→Act→World→Prop}
theorem wpListIn_load_row (hgd:o.guard=none) (ty:TypeId) (x:Operand) (ho:o.op=.load ty x)
  (g:Nat) (hx:a.eval x=.pointer (some ⟨g,0,none⟩)) (t:TypeId) (cs:Array Value) (fr:Nat×Nat) (d:TypeDesc) (hg:w.heap[g]? = some (.cells cs t fr))
  (hu:P.underlying ty=some d) (hd:(match d with | .struct _ | .array _ _=>true | _=>false)=true) (hi:(P.info? ty).map (·.size)=some cs.size)
  (h:wpListIn F nF P ops Q rest (a.put o.dst (.agg cs)) w):wpListIn F nF P ops Q (o :: rest) a w:=by
 refine wpListIn_plain hgd fun K hK=>?_
 unfold Oper.wpIn
 refine ⟨by simp [Oper.about,ho],?_⟩
 rw [Oper.semAt_plain F _ _ (by rw [ho];intro c hc';cases hc')]
 simp only [execOp,ho,hx,Instr.loadAt,Instr.sureAddr,Sem.run_bind,Sem.run_pure,Result.andThen_ok,run_loadVar_row w g t ty cs fr d hg hu hd hi]
 exact hK _ _ h
theorem wpListIn_store_row (hgd:o.guard=none) (ty:TypeId) (x y:Operand) (ho:o.op=.store ty x y)
  (g:Nat) (cells:Array Value) (hx:a.eval x=.pointer (some ⟨g,0,none⟩)) (hy:a.eval y=.agg cells)
  (t:TypeId) (old:Array Value) (hg:w.heap[g]? = some (.cells old t (0,0))) (hi:(P.info? ty).map (·.size)=some cells.size)
  (hold:old.size=cells.size) (h1:cells.all (·.oneCell')=true)
  (h:wpListIn F nF P ops Q rest (a.put o.dst undef) (w.setRow g cells)):wpListIn F nF P ops Q (o :: rest) a w:=by
 refine wpListIn_plain hgd fun K hK=>?_
 unfold Oper.wpIn
 refine ⟨by simp [Oper.about,ho],?_⟩
 rw [Oper.semAt_plain F _ _ (by rw [ho];intro c hc';cases hc')]
 simp only [execOp,ho,hx,hy,Instr.storeAt,Instr.sureAddr,Sem.run_bind,Sem.run_pure,Result.andThen_ok,run_storeVar_row w g t ty old cells hg hi hold h1]
 exact hK _ _ h
end
/-- No operation of the region defers a call. -/
def noDefer (ops:Array Oper):Bool:=ops.all fun o=>match o.op with | .defer _=>false | _=>true
theorem noDefer_get {ops:Array Oper} (h:noDefer ops=true) {i:Nat} {o:Oper} (ho:ops[i]? = some o):∀ c,o.op≠.defer c:=fun c e=>by
 obtain ⟨hi,rfl⟩:=Array.getElem?_eq_some_iff.1 ho
 have:=Array.all_eq_true.1 h i hi
 rw [e] at this
 cases this
section
variable {l nF:Nat} {P:Program} {ops:Array Oper} {Q:Exit→Act→World→Prop}
theorem rowsIn_of {P:Program} {row:String} {args:Array Value} {w:World} {R:Value→World→Prop} (h:Rows P row args w R):RowsIn (Fence.wide.inRound l) nF P row args w R :=
 fun cc cs _=>let ⟨v,w',r,s⟩:=h cc cs;⟨v,w',r,stepsIn_wide.2 s⟩
/-- In a round of a loop over an iterator an operation is what it is elsewhere, if it defers no call. -/
theorem wpOpIn_of_wpOp (hnd:noDefer ops=true) (hQ:¬ LetsOut Q) {i:Nat} {K:Act→World→Prop} {a:Act} {w:World} (h:wpOp P ops Q i K a w):wpOpIn (Fence.wide.inRound l) nF P ops Q i K a w:=by
 unfold wpOp at h
 unfold wpOpIn
 cases ho:ops[i]? with
 | none=>rw [ho] at h;exact h
 | some o =>
  rw [ho] at h
  dsimp only at h ⊢
  split at h
  ·rename_i hw
   rw [if_pos hw]
   rcases h with h | ⟨_,h⟩
   ·refine ⟨fun _ _=>trivial,?_⟩
    rw [Oper.semAt_plain _ _ _ (noDefer_get hnd ho)]
    unfold Oper.wp at h
    generalize (execOp a.eval o).run P w=r at *
    have hd:(Fence.wide.inRound l).depth.isSome=true→1≤nF:=fun e=>by cases e
    cases r with
    | ok x w' =>
     cases x with
     | value v=>exact h
     | skip=>exact h
     | defer d=>exact h
     | enter f args =>
      refine ⟨hd,CallsIn.mono (CallsIn.inRound l (callsIn_wide.2 h)) fun e w2 he=>?_⟩
      cases e <;> exact he
     | row row args=>exact ⟨hd,rowsIn_of h⟩
     | _=>exact h.elim
    | halt x w' =>
     cases x with
     | panic v=>exact h
     | _=>exact h.elim
   ·exact (hQ h).elim
  ·rename_i hw
   rw [if_neg hw]
   exact ⟨fun _ _=>trivial,h⟩
theorem wpAnyIn_of_wpAny {md:Region.Mode} (hnd:noDefer ops=true) (hQ:¬ LetsOut Q):∀ (fuel:Nat) (listed:Array Bool) (a:Act) (w:World),wpAny P md ops Q fuel listed a w→wpAnyIn (Fence.wide.inRound l) nF P md ops Q fuel listed a w
 | 0,_,_,_,h=>h
 | fuel+1,listed,a,w,h=>⟨h.1,fun i hi=>wpOpIn_of_wpOp hnd hQ (wpOp_mono (fun a' w' h'=>wpAnyIn_of_wpAny hnd hQ fuel _ a' w' h') (h.2 i hi))⟩
/-- A region that draws its order, in a round: by what holds in every world on the way. -/
theorem wpIn_round_held_drew {S:World→Prop} {id:Nat} {a:Act} {w:World} (hm:P.follows .mixedOrders=true) (hnd:noDefer ops=true) (hQ:¬ LetsOut Q) (hS:S w.drew)
  (h:S w.drew→wpAnyH P .any ops Q S ops.size (Array.replicate ops.size false) a w.drew):(Code.region id ops true).wpIn (Fence.wide.inRound l) nF P Q a w :=
 wpIn_region_any hm (wpAnyIn_of_wpAny hnd hQ _ _ _ _ (wpAny_of_held _ _ _ _ (h hS)))
end
theorem bk_own {X Y:World} {row:Option Nat} {g:Nat} {t:TypeId} {l:Array Value} (h:Bk X g t l) (hg:X.grownBy Y row) (hr:∀ r,row=some r→∃ o:Obj,X.heap[r]? = some o∧o.isCells=false):Bk Y g t l :=
 (hg.block g h.lt (fun e=>by obtain ⟨o,ho,hc⟩:=hr g e.symm;rw [show X.heap[g]? = _ from h] at ho;cases ho;cases hc)).trans h
theorem loc_own {w0:World} {B:Nat} (hB:w0.heap.size≤B) {X Y:World} {row:Option Nat} {bs:List Bl} (L:Loc w0 X bs []) (hg:X.grownBy Y row) (hr:∀ r,row=some r→B≤r∧∃ o:Obj,X.heap[r]? = some o∧o.isCells=false):Loc w0 Y bs [] :=
 ⟨L.K.grown hg L.K.size (fun r e=>by have:=(hr r e).1;omega),fun i b e=>⟨bk_own (L.bk i b e).1 hg (fun r e'=>(hr r e').2),(L.bk i b e).2⟩,L.ne,fun f h=>by cases h⟩
theorem keeps_row {w:World} {g:Nat} {t:TypeId} {l:Array Value} (h:Bk w g t l) (l':Array Value) (B:Nat):KeepsFrom B w (w.setRow g l') :=
 ⟨by simp,fun k o _ hk ho=>by
  have hne:k≠g:=fun e=>by subst e;rw [show w.heap[k]? = _ from h] at hk;cases hk;cases ho
  exact (setRow_other w g k l' hne).trans hk⟩
theorem loc_put {w0 W:World} {bs:List Bl} (L:Loc w0 W bs []) {D:Nat} {o o':Obj} (hD:w0.heap.size≤D) (hK:W.heap[D]? = some o) (ho:o.isCells=false):Loc w0 (W.putObj D o') bs [] :=
 loc_own hD L (grownBy_putObj' W D o') (fun r e=>by cases e;exact ⟨Nat.le_refl _,o,hK,ho⟩)
end Go.Proofs.YtfhefofkhmkcnaaGreatDoor

/-
 What seek.onward answers: the operation at the next top whose bit in its word isn't set,or in the next shard. Conditions: numbers that fit,tops that are handed out by the iterator.
-/
namespace Go.Proofs.YtfhefofkhmkcnaaGreatDoor
set_option maxRecDepth 100000
set_option maxRecDepth 100000
open Go.RowKit Go.Shelf
set_option linter.unusedVariables false
attribute [local go_sem] Oper.semAt_some
theorem nxt_some {a b at_ x k:Nat} (hk:k<cnt_ a b) (h0:∀ j,j<k→hit at_ x (a/64+j)=false) (h1:hit at_ x (a/64+k)=true):nxt a b at_ x=some (a/64+k):=by
 obtain ⟨m,hm⟩:∃ m,cnt_ a b=k+1+m:=⟨cnt_ a b - (k+1),by omega⟩
 have aux:∀ j,j≤k→(ups (a/64) j).find? (hit at_ x)=none:=fun j=>by
  induction j with
  | zero=>intro _;rfl
  | succ j ih=>intro h;rw [ups_succ,List.find?_append,ih (by omega)];simp [h0 j (by omega)]
 have aux2:∀ m,(ups (a/64) (k+1+m)).find? (hit at_ x)=some (a/64+k):=fun m=>by
  induction m with
  | zero=>rw [Nat.add_zero,ups_succ,List.find?_append,aux k (Nat.le_refl _)];simp [h1]
  | succ m ih=>rw [← Nat.add_assoc,ups_succ,List.find?_append,ih];rfl
 unfold nxt;rw [hm];exact aux2 m
theorem nxt_none {a b at_ x:Nat} (h0:∀ j,j<cnt_ a b→hit at_ x (a/64+j)=false):nxt a b at_ x=none:=by
 unfold nxt
 rw [List.find?_eq_none]
 intro t ht
 have:=ups_mem.1 ht
 have e:=h0 (t - a/64) (by omega)
 rw [show a/64+(t - a/64)=t by omega] at e
 simp [e]
theorem fb_set {X q:Nat} (h:X.testBit q=true):fb (fl_ X q) (q+1)=false :=
 (fi_not (fun k hk=>by
  rw [fl_bit]
  rcases Nat.lt_or_ge k q with h1 | h1
  ·simp [h1]
  ·rw [show k=q by omega,h];rfl)).2
theorem fb_not {X q:Nat} (h:X.testBit q=false):fb (fl_ X q) (q+1)=true :=
 (fi_of (i:=q) (by omega) (by rw [fl_bit,h];simp) (fun k hk=>by rw [fl_bit];simp [hk])).2
/-- The three boxes that the iterator reads. -/
structure Clo (w:World) (b1 b2 b3 n a b:Nat):Prop where
 c1:w.cell? ⟨b1,0,none⟩=some (.int .i64 (a:Nat))
 c2:w.cell? ⟨b2,0,none⟩=some (.int .i64 (b:Nat))
 c3:w.cell? ⟨b3,0,none⟩=some (.int .i64 (n:Nat))
 l1:b1<w.heap.size
 l2:b2<w.heap.size
 l3:b3<w.heap.size
theorem Clo.below {w w':World} {b1 b2 b3 n a b:Nat} (h:Clo w b1 b2 b3 n a b) (K:Below w.heap.size w w'):Clo w' b1 b2 b3 n a b :=
 ⟨(K.cell (p:=⟨b1,0,none⟩) h.l1).trans h.c1,(K.cell (p:=⟨b2,0,none⟩) h.l2).trans h.c2,(K.cell (p:=⟨b3,0,none⟩) h.l3).trans h.c3,Nat.lt_of_lt_of_le h.l1 K.size,Nat.lt_of_lt_of_le h.l2 K.size,Nat.lt_of_lt_of_le h.l3 K.size⟩
abbrev tpsV (b1 b2 b3:Nat):Value:=.func (.func 156) #[] #[.pointer (some ⟨b1,0,none⟩),.pointer (some ⟨b2,0,none⟩),.pointer (some ⟨b3,0,none⟩)]
section
variable {w:World} {lo M a b b1 b2 b3 tt ba:Nat} {p sh wo qu tr:Int} {A:Option Addr} {n c:Nat} {h:Hd} {s:Sc} {l:Ls}
theorem sonward_any (hM:M≤65536) (hab:a≤b) (hb:b≤lv M) (hat:s.at_=(tt:Int)) (htt:tt≤64) (hw:s.word<18446744073709551616) (hs0:0≤s.sought) (hs1:s.sought≤65536) (hC:Clo w b1 b2 b3 M a b) :
  Calls Tryz.prog 126 #[.agg #[.int .u32 (ba:Int),.int .i64 p,.slice A n c,.int .i64 sh,.int .i64 wo,.int .i64 qu,.int .i64 tr],tpsV b1 b2 b3,.agg (opv h s)] w (RetOp (onH sh a b s h) (onS sh a b s) w):=by
 refine (callsIn_wide (n:=5)).1 ?_
 refine callsIn_of_wp_marks Tryz.func126 rfl trivial ?_ rfl
 simp only [Tryz.ntmps126,List.size_toArray,List.length_cons,List.length_nil,Nat.reduceAdd,Nat.reduceSub,Array.replicate_succ,Array.replicate_zero,List.push_toArray,List.append_toArray,List.nil_append,List.cons_append]
 have TF:=fun X q q1 (hX:X<18446744073709551616) hq hq1 w=>Lib.hid (callsIn_wide (n:=5 - 1 - 1 - 1).2 (hfind_any X q q1 hX hq hq1 w))
 have TE:=fun w=>Lib.hid (callsIn_wide (n:=5 - 1).2 (else_any (w:=w) (a:=ba) (p:=p) (sh:=sh) (wo:=wo) (qu:=qu) (tr:=tr) (A:=A) (n:=n) (c:=c) (h:=h) (s:=s) hs0 hs1))
 gi_wp2
 have L:=Loc.start w
 generalize hal:World.alloc _ _=W0
 replace L:=L.a3 hal
 clear hal
 replace L:=L.is0 (opv hd0 sc0) rfl
 generalize w.heap.size+1+1=gR at L ⊢
 generalize w.heap.size+1=gO at L ⊢
 generalize w.heap.size=gH at L ⊢
 have hz:=L.K.size
 have hC0:=hC.below L.K
 refine wpIn_rangeFunc_ownH (F:=Fence.wide) rfl (by decide) (gf:=156) (lb:=#[.pointer (some ⟨b1,0,none⟩),.pointer (some ⟨b2,0,none⟩),.pointer (some ⟨b3,0,none⟩)]) rfl trivial (enters_of Tryz.func156 (by kernel_rfl) rfl)
  (tops_stops hM hab hb (5 - 1) (by decide) b1 b2 b3 w.heap.size W0 hz hC0.c1 hC0.c2 hC0.c3 hC.l1 hC.l2 hC.l3) belowK_t (belowK_b hz) (Below.refl _ _) (fun _=>rfl)
  (fun pre W=>Loc w W [(gR,43,opv hd0 sc0),(gO,43,opv h s),(gH,27,#[.int .u32 (ba:Int),.int .i64 p,.slice A n c,.int .i64 sh,.int .i64 wo,.int .i64 qu,.int .i64 tr])] []∧∀ x∈pre,hit tt s.word (a/64+x.val)=false)
  (fun cc pre W=>cc=.ret∧∃ pre' x,pre=pre' ++ [x]∧(∀ y∈pre',hit tt s.word (a/64+y.val)=false)∧hit tt s.word (a/64+x.val)=true∧Loc w W [(gR,43,opv h (atS s (a/64+x.val))),(gO,43,opv h (atS s (a/64+x.val))),(gH,27,#[.int .u32 (ba:Int),.int .i64 p,.slice A n c,.int .i64 sh,.int .i64 wo,.int .i64 qu,.int .i64 tr])] [])
  (fun pre X Y row hs hg hr=>⟨loc_own hz hs.1 hg hr,hs.2⟩)
  (fun cc pre X Y row hs hg hr=>by
   obtain ⟨h1,pre',x,h2,h3,h4,h5⟩:=hs
   exact ⟨h1,pre',x,h2,h3,h4,loc_own hz h5 hg hr⟩)
  ⟨L,by simp⟩
  (fun x a' W=>∃ gT,Bk W gT 177 (tpv M a b (a/64+x.val))∧a'={ tmps:=#[.agg #[.int .u32 (ba:Int),.int .i64 p,.slice A n c,.int .i64 sh,.int .i64 wo,.int .i64 qu,.int .i64 tr],tpsV b1 b2 b3,.agg (opv h s),.pointer (some ⟨gH,0,none⟩),undef,.pointer (some ⟨gO,0,none⟩),.pointer (some ⟨gR,0,none⟩),.pointer (some ⟨gT,0,none⟩),undef,undef,tpsV b1 b2 b3,.agg (tpv M a b (a/64+x.val)),undef,undef,undef,undef,undef,undef,undef,undef,undef,undef,undef,undef,undef,undef,undef,undef,undef,undef,undef,undef,undef,undef,undef,undef,undef],defers:=[] })
  (fun x a' _ X Y row hs hg hr=>by
   obtain ⟨gT,h1,h2⟩:=hs
   exact ⟨gT,bk_own h1 hg (fun r e=>(hr r e).2),h2⟩)
  ?assign ?body ?done ?stop
 case assign =>
  rintro l pre x W K ⟨L1,hp⟩ hK
  dsimp only [tpe,tpv]
  gi_wp2
  exact hK _ _ ((KeepsOthers.alloc _ _).from _) ((Below.refl _ W).alloc L1.K.size _) ⟨L1.other _,hp⟩ ⟨W.heap.size,Bk.new _ _ _,rfl⟩
 case body =>
  rintro l pre x a' W hl hr ⟨L1,hp⟩ ⟨gT,hT,rfl⟩ hlt
  have ht:=bfr_le a b (a/64+x.val) (by have:=x.isLt;omega)
  have hq64:a/64+x.val<64:=by have:=cnt_top.1 (show a/64≤a/64+x.val∧a/64+x.val<a/64+cnt_ a b by have:=x.isLt;omega);have:=lv_le hM;omega
  have T_0:W.cell? ⟨gT,0,none⟩=some (.int .i64 ((a/64+x.val:Nat))):=hT.at_ 0 rfl
  have T_z:=hT.lt
  have O_16:W.cell? ⟨gO,16,none⟩=some (.int .i64 (tt:Nat)):=by rw [← hat];exact L1.at_ 1 16 rfl rfl
  have O_13:W.cell? ⟨gO,13,none⟩=some (.int .u64 (s.word:Nat)):=L1.at_ 1 13 rfl rfl
  have O_f16:=L1.fz 1 16 rfl
  have O_z:=L1.lt 1 rfl
  have hH:hit tt s.word (a/64+x.val)=(decide (tt≤a/64+x.val) && !s.word.testBit (a/64+x.val)):=rfl
  have hA1:atS s (a/64+x.val)=⟨s.kind,s.addr,s.err,s.aad,s.used,s.phase,s.shard,s.sought,s.leaf,s.bit,s.word,s.full,((a/64+x.val+1:Nat):Int),s.tries,s.item,s.stamp⟩:=rfl
  obtain ⟨q1,hq1⟩:∃ q1,q1=a/64+x.val+1:=⟨_,rfl⟩
  rw [← hq1] at hA1
  have TF1:=TF s.word (a/64+x.val) q1 hw (by omega) (by omega)
  have hq2:((a/64+x.val:Nat):Int)+1=(q1:Nat):=by omega
  have hfb:fb (fl_ s.word (a/64+x.val)) q1=!s.word.testBit (a/64+x.val):=by
   rw [hq1]
   cases hb:s.word.testBit (a/64+x.val) with
   | true=>exact fb_set hb
   | false=>exact fb_not hb
  rw [hfb] at TF1
  clear TF TE hq1 hfb
  have LS:=L1.set 1 16 rfl (.int .i64 (q1:Nat))
  have hS:(opv h s).setIfInBounds 16 (.int .i64 (q1:Nat))=opv h (atS s (a/64+x.val)):=by rw [hA1];rfl
  rw [hS] at LS
  dsimp only [nput] at LS
  replace hA1:=Lib.hid hA1
  generalize hAS:atS s (a/64+x.val)=s2 at LS
  replace hAS:=Lib.hid hAS
  replace hH:=Lib.hid hH
  have hpx:∀ bo,hit tt s.word (a/64+x.val)=bo→bo=false→∀ y∈pre ++ [x],hit tt s.word (a/64+y.val)=false:=fun bo e e' y hy=>by
   rcases List.mem_append.1 hy with h1 | h1
   ·exact hp y h1
   ·rw [List.mem_singleton.1 h1,e,e']
  replace hpx:=Lib.hid hpx
  generalize hqq:a/64+x.val=q at *
  replace hqq:=Lib.hid hqq
  generalize fi (fl_ s.word q) q1=f at TF1
  replace hS:=Lib.hid hS
  by_cases hlt2:q<tt
  ·gi_wp2
   exact ⟨KeepsFrom.refl _ _,Below.refl _ _,L1,hpx.out _ hH.out (by simp;omega)⟩
  ·cases hbit:s.word.testBit q with
   | true =>
    rw [hbit] at TF1 hH
    replace hbit:=Lib.hid hbit
    gi_wp2_with (refine ⟨trivial,?_⟩;(with_reducible refine CallsIn.mono (CallsIn.inRound l (TF1 _).out) ?_);rintro e w' ⟨rfl,rfl⟩)
    exact ⟨KeepsFrom.refl _ _,Below.refl _ _,L1,hpx.out _ hH.out (by simp)⟩
   | false =>
    rw [hbit] at TF1 hH
    replace hbit:=Lib.hid hbit
    gi_wp2_with (first
     | (refine ⟨trivial,?_⟩;(with_reducible refine CallsIn.mono (CallsIn.inRound l (TF1 _).out) ?_);rintro e w' ⟨rfl,rfl⟩)
     | (refine wpListIn_load_row rfl 43 (.tmp 5) rfl gO rfl _ _ (0,0) _ (LS.bk_ 1 rfl) Tryz.underlying43 rfl op_sz ?_)
     | (refine wpListIn_store_row rfl 43 (.tmp 6) (.tmp 33) rfl gR _ rfl rfl _ _ (LS.bk_ 0 rfl) op_sz rfl (opv_one _ _) ?_))
    exact ⟨((KeepsOthers.setCell _ _ _).from _).trans (keeps_row (LS.bk_ 0 rfl) _ _),rfl,pre,x,rfl,hp,by rw [hqq.out,hH.out];simp;omega,by rw [hqq.out,hAS.out];exact LS.row 0 rfl _⟩
 case done =>
  rintro D ys W hD ⟨hpre,hlen⟩ ⟨L1,hp⟩ hK
  clear TF
  have hn1:nxt a b s.at_.toNat s.word=none:=by
   rw [hat]
   refine nxt_none fun j hj=>?_
   have hj2:j<ys.length:=by omega
   have:=hp ys[j] (List.getElem_mem hj2)
   have e:(ys[j]).val=j:=by
    have e2:(ys.map (·.val))[j]? = some j:=by rw [show ys.map (·.val)=_ from hpre];simp [hj2]
    simpa [hj2] using e2
   rw [e] at this
   simpa using this
  have e1:onH sh a b s h=elsH sh s h:=by unfold onH;rw [hn1]
  have e2:onS sh a b s=elsS sh s:=by unfold onS;rw [hn1]
  clear hn1
  have hlt:=(Array.getElem?_eq_some_iff.1 hK).1
  gi_wp2_with (first
   | (refine wpListIn_load_row rfl 27 (.tmp 3) rfl gH rfl _ _ (0,0) _ (L1.bk_ 2 rfl) Tryz.underlying27 rfl cf_sz ?_)
   | (refine wpListIn_load_row rfl 43 (.tmp 5) rfl gO rfl _ _ (0,0) _ (L1.bk_ 1 rfl) Tryz.underlying43 rfl op_sz ?_))
  refine ⟨trivial,?_⟩
  refine CallsIn.mono (TE _).out ?_
  rintro e w2 ⟨rfl,K'⟩
  have hK2:=(K'.block D hlt).trans hK
  replace L1:=L1.over K'
  gi_wp2_with (refine wpListIn_store_row rfl 43 (.tmp 6) (.tmp 36) rfl gR _ rfl rfl _ _ (L1.bk_ 0 rfl) op_sz rfl (opv_one _ _) ?_)
  have L2:=L1.row 0 rfl (opv (elsH sh s h) (elsS sh s))
  have hK3:=(keeps_row (L1.bk_ 0 rfl) (opv (elsH sh s h) (elsS sh s)) 0).same D _ (Nat.zero_le _) hK2 rfl
  refine ⟨by simp,.inl ⟨_,_,rfl,run_takeDeferred hK3,?_⟩⟩
  have L3:=loc_put L2 (o':=.deferred none) (Nat.le_trans hz hD) hK3 rfl
  exact ⟨.agg (opv (elsH sh s h) (elsS sh s)),results_cell_row (fn:=Tryz.f126) Tryz.results126 _ _ gR _ _ (0,0) _ rfl (L3.bk_ 0 rfl) Tryz.underlying43 rfl op_sz,by rw [e1,e2],L3.K⟩
 case stop =>
  rintro D cc pre W hD hpre ⟨rfl,pre',x,rfl,h3,h4,L1⟩ hK
  clear TF TE
  have hx:x.val=pre'.length∧isPre pre':=by
   have e2:=show (pre' ++ [x]).map (·.val)=List.range (pre' ++ [x]).length from hpre
   rw [List.map_append,List.length_append,List.length_singleton,List.range_succ] at e2
   have:=List.append_inj' e2 rfl
   exact ⟨by simpa using this.2,this.1⟩
  have hn1:nxt a b s.at_.toNat s.word=some (a/64+x.val):=by
   rw [hat]
   refine nxt_some x.isLt (fun j hj=>?_) (by simpa using h4)
   have hj2:j<pre'.length:=by omega
   have:=h3 pre'[j] (List.getElem_mem hj2)
   have e:(pre'[j]).val=j:=by
    have e2:(pre'.map (·.val))[j]? = some j:=by rw [show pre'.map (·.val)=_ from hx.2];simp [hj2]
    simpa [hj2] using e2
   rw [e] at this
   simpa using this
  have e1:onH sh a b s h=h:=by unfold onH;rw [hn1]
  have e2:onS sh a b s=atS s (a/64+x.val):=by unfold onS;rw [hn1]
  rw [e1,e2]
  gi_wp2
  refine ⟨by simp,.inl ⟨_,_,rfl,run_takeDeferred hK,?_⟩⟩
  have L3:=loc_put L1 (o':=.deferred none) (Nat.le_trans hz hD) hK rfl
  exact ⟨.agg (opv h (atS s (a/64+x.val))),results_cell_row (fn:=Tryz.f126) Tryz.results126 _ _ gR _ _ (0,0) _ rfl (L3.bk_ 0 rfl) Tryz.underlying43 rfl op_sz,rfl,L3.K⟩
end
end Go.Proofs.YtfhefofkhmkcnaaGreatDoor

/-
 What seek.free answers: the first of the shard's leaves in a top whose bit there isn't set,and whether there is one. Conditions: cells that there are,tops that are handed out by the iterator.
-/
namespace Go.Proofs.YtfhefofkhmkcnaaGreatDoor
set_option maxRecDepth 100000
set_option maxRecDepth 100000
open Go.RowKit Go.Shelf
set_option linter.unusedVariables false
attribute [local go_sem] Oper.semAt_some
theorem inT_yes {a b t:Nat} (h:a/64≤t∧t<a/64+cnt_ a b):inT a b t=true:=by unfold inT;exact decide_eq_true h
theorem inT_no {a b t:Nat} (h:¬ (a/64≤t∧t<a/64+cnt_ a b)):inT a b t=false:=by unfold inT;exact decide_eq_false h
section
variable {w:World} {M a b b1 b2 b3 m d t:Nat} {B:Option Addr} {ys:List Nat}
theorem free_any (hM:M≤65536) (hab:a≤b) (hb:b≤lv M) (hU:US w B m d ys) (hm:lv M+tv M<m) (ht:t≤64) (hC:Clo w b1 b2 b3 M a b) :
  Calls Tryz.prog 127 #[.slice B m d,tpsV b1 b2 b3,.int .i64 (t:Int)] w fun e w'=>∃ i bo,e=.returned (.tuple #[.int .i64 i,.bool bo])∧(bo=true→∃ j:Nat,i=(j:Int)∧fre a b (gt ys (lv M+t)) t=some j)∧(bo=false→fre a b (gt ys (lv M+t)) t=none)∧Below w.heap.size w w':=by
 have TF:=fun q f1 f2 (h1:f1≤64) (h2:f2≤64) w=>Lib.hid (hfind_any (gt ys q) f1 f2 (gt_lt hU.fit q) h1 h2 w)
 have TL:=fun q (hq:q<m) w (U:US w B m d ys)=>Lib.hid (load_nat U q hq)
 refine (callsIn_wide (n:=5)).1 ?_
 refine callsIn_of_wp_marks Tryz.func127 rfl trivial ?_ rfl
 simp only [Tryz.ntmps127,List.size_toArray,List.length_cons,List.length_nil,Nat.reduceAdd,Nat.reduceSub,Array.replicate_succ,Array.replicate_zero,List.push_toArray,List.append_toArray,List.nil_append,List.cons_append]
 gi_wp2
 have L:=Loc.start w
 generalize hal:World.alloc _ _=W0
 replace L:=L.a4 hal
 clear hal
 generalize w.heap.size+1+1+1=gB at L ⊢
 generalize w.heap.size+1+1=gI at L ⊢
 generalize w.heap.size+1=gN at L ⊢
 generalize w.heap.size=gL at L ⊢
 have hz:=L.K.size
 have hC0:=hC.below L.K
 refine wpIn_rangeFunc_ownH (F:=Fence.wide) rfl (by decide) (gf:=156) (lb:=#[.pointer (some ⟨b1,0,none⟩),.pointer (some ⟨b2,0,none⟩),.pointer (some ⟨b3,0,none⟩)]) rfl trivial (enters_of Tryz.func156 (by kernel_rfl) rfl)
  (tops_stops hM hab hb (5 - 1) (by decide) b1 b2 b3 w.heap.size W0 hz hC0.c1 hC0.c2 hC0.c3 hC.l1 hC.l2 hC.l3) belowK_t (belowK_b hz) (Below.refl _ _) (fun _=>rfl)
  (fun pre W=>Loc w W [(gB,4,#[.bool false]),(gI,3,#[.int .i64 0]),(gN,3,#[.int .i64 (t:Int)]),(gL,34,#[.slice B m d])] []∧∀ x∈pre,a/64+x.val≠t)
  (fun cc pre W=>cc=.ret∧∃ (i:Int) (bo:Bool),Loc w W [(gB,4,#[.bool bo]),(gI,3,#[.int .i64 i]),(gN,3,#[.int .i64 (t:Int)]),(gL,34,#[.slice B m d])] []∧(bo=true→∃ j:Nat,i=(j:Int)∧fre a b (gt ys (lv M+t)) t=some j)∧(bo=false→fre a b (gt ys (lv M+t)) t=none))
  (fun pre X Y row hs hg hr=>⟨loc_own hz hs.1 hg hr,hs.2⟩)
  (fun cc pre X Y row hs hg hr=>by
   obtain ⟨h1,i,bo,h2,h3⟩:=hs
   exact ⟨h1,i,bo,loc_own hz h2 hg hr,h3⟩)
  ⟨L,by simp⟩
  (fun x a' W=>∃ gT,Bk W gT 177 (tpv M a b (a/64+x.val))∧a'={ tmps:=#[.slice B m d,tpsV b1 b2 b3,.int .i64 (t:Int),.pointer (some ⟨gL,0,none⟩),undef,.pointer (some ⟨gN,0,none⟩),.pointer (some ⟨gI,0,none⟩),.pointer (some ⟨gB,0,none⟩),.pointer (some ⟨gT,0,none⟩),undef,undef,tpsV b1 b2 b3,.agg (tpv M a b (a/64+x.val)),undef,undef,undef,undef,undef,undef,undef,undef,undef,undef,undef,undef,undef,undef,undef,undef,undef,undef,undef,undef,undef,undef,undef,undef],defers:=[] })
  (fun x a' _ X Y row hs hg hr=>by
   obtain ⟨gT,h1,h2⟩:=hs
   exact ⟨gT,bk_own h1 hg (fun r e=>(hr r e).2),h2⟩)
  ?assign ?body ?done ?stop
 case assign =>
  rintro l pre x W K ⟨L1,hp⟩ hK
  dsimp only [tpe,tpv]
  gi_wp2
  exact hK _ _ ((KeepsOthers.alloc _ _).from _) ((Below.refl _ W).alloc L1.K.size _) ⟨L1.other _,hp⟩ ⟨W.heap.size,Bk.new _ _ _,rfl⟩
 case body =>
  rintro l pre x a' W hl hr ⟨L1,hp⟩ ⟨gT,hT,rfl⟩ hlt
  have hin:a/64≤a/64+x.val∧a/64+x.val<a/64+cnt_ a b:=by have:=x.isLt;omega
  obtain ⟨hf64,ht64⟩:=bfr_le a b (a/64+x.val) hin
  have hct:=cnt_top.1 hin
  have hl2:=lv_le hM
  have hq64:a/64+x.val<tv M:=by unfold tv tq;omega
  have hlf:lft a (a/64+x.val)=64*(a/64+x.val)+bfr a (a/64+x.val):=by unfold lft bfr;omega
  have N_0:W.cell? ⟨gN,0,none⟩=some (.int .i64 (t:Nat)):=L1.at_ 2 0 rfl rfl
  have N_z:=L1.lt 2 rfl
  have hfre:inT a b (a/64+x.val)=true:=inT_yes hin
  have hpx:a/64+x.val≠t→∀ y∈pre ++ [x],a/64+y.val≠t:=fun e y hy=>by
   rcases List.mem_append.1 hy with h1 | h1
   ·exact hp y h1
   ·rw [List.mem_singleton.1 h1];exact e
  replace hpx:=Lib.hid hpx
  clear hct hlt hin
  dsimp only [tpv] at hT
  replace TF:=TF (lv M+(a/64+x.val)) (bfr a (a/64+x.val)) (bto b (a/64+x.val)) (by omega) (by omega)
  replace TL:=TL (lv M+(a/64+x.val)) (by omega)
  have hfr2:fre a b (gt ys (lv M+(a/64+x.val))) (a/64+x.val)=(if fb (fl_ (gt ys (lv M+(a/64+x.val))) (bfr a (a/64+x.val))) (bto b (a/64+x.val))=true then some (64*(a/64+x.val)+fi (fl_ (gt ys (lv M+(a/64+x.val))) (bfr a (a/64+x.val))) (bto b (a/64+x.val))) else none):=by unfold fre;rw [if_pos hfre]
  have hfi:=fi_le (fl_ (gt ys (lv M+(a/64+x.val))) (bfr a (a/64+x.val))) (bto b (a/64+x.val))
  clear hfre
  generalize a/64+x.val=q at *
  generalize hX:gt ys (lv M+q)=X at TF TL hfr2 hfi
  generalize hcl:lv M+q=cl at *
  generalize fi (fl_ X (bfr a q)) (bto b q)=f at *
  generalize fb (fl_ X (bfr a q)) (bto b q)=bo at *
  generalize lft a q=lf at *
  generalize bfr a q=fr at *
  generalize bto b q=to at *
  have T_0:W.cell? ⟨gT,0,none⟩=some (.int .i64 (q:Nat)):=hT.at_ 0 rfl
  have T_z:=hT.lt
  by_cases hqt:q=t
  ·subst hqt
   have heq:((q:Int) == (q:Int))=true:=by simp
   obtain ⟨s1,hs1⟩:∃ s1:Nat,(lf:Int)+(f:Int)=s1:=⟨lf+f,by omega⟩
   obtain ⟨r1,hr1⟩:∃ r1:Nat,(s1:Int) - (fr:Int)=r1:=⟨s1 - fr,by omega⟩
   have hr2:r1=64*q+f:=by omega
   have hbd:s1≤100000∧q≤64∧lf≤10000∧f≤64:=by omega
   rw [← hr2] at hfr2
   replace hr2:=Lib.hid hr2
   replace hlf:=Lib.hid hlf
   replace hcl:=Lib.hid hcl
   replace hX:=Lib.hid hX
   gi_wp2
   refine wpIn_round_held_drew (S:=fun w'=>Loc w w' [(gB,4,#[.bool false]),(gI,3,#[.int .i64 0]),(gN,3,#[.int .i64 (q:Int)]),(gL,34,#[.slice B m d])] []∧Bk w' gT 177 #[.int .i64 (q:Nat),.int .i64 (cl:Nat),.int .i64 (lf:Nat),.int .i64 (fr:Nat),.int .i64 (to:Nat)]) (by kernel_rfl) (by kernel_rfl) (fun ⟨_,_,h⟩=>h) ⟨L1.drew,hT.below (Below.refl _ _).drew⟩ (fun hHeld=>?_)
   have hKO:KeepsOthers W W.drew:=KeepsOthers.drew W
   have hBD:Below w.heap.size W W.drew:=(Below.refl _ _).drew
   generalize W.drew=V at hHeld hKO hBD ⊢
   refine ty 0 18 (.slice B m d) rfl ?_ hHeld ?_
   ·intro ww hS
    try dsimp only at hS
    have L_0:=hS.1.at_ 3 0 rfl (v:=.slice B m d) rfl
    have L_z:=hS.1.lt 3 rfl
    go_simp
    try with_reducible rfl
    try omega
   refine tg 1 19 (.pointer (some ⟨gT,1,none⟩)) rfl hHeld ?_
   refine ty 2 20 (.int .i64 (cl:Nat)) rfl ?_ hHeld ?_
   ·intro ww hS
    try dsimp only at hS
    have T_1:=hS.2.at_ (v:=.int .i64 (cl:Nat)) 1 rfl
    have T_z:=hS.2.lt
    go_simp
    try with_reducible rfl
    try omega
   refine tg 4 22 (.pointer (some ⟨gT,3,none⟩)) rfl hHeld ?_
   refine ty 5 23 (.int .i64 (fr:Nat)) rfl ?_ hHeld ?_
   ·intro ww hS
    try dsimp only at hS
    have T_3:=hS.2.at_ (v:=.int .i64 (fr:Nat)) 3 rfl
    have T_z:=hS.2.lt
    go_simp
    try with_reducible rfl
    try omega
   refine tg 6 24 (.pointer (some ⟨gT,4,none⟩)) rfl hHeld ?_
   refine ty 7 25 (.int .i64 (to:Nat)) rfl ?_ hHeld ?_
   ·intro ww hS
    try dsimp only at hS
    have T_4:=hS.2.at_ (v:=.int .i64 (to:Nat)) 4 rfl
    have T_z:=hS.2.lt
    go_simp
    try with_reducible rfl
    try omega
   refine rd 3 21 rfl fun K0 hK=>?_
   go_simp
   refine ((TL _ (hU.below hHeld.1.K)).out).mono ?_
   rintro e _ ⟨rfl,rfl⟩
   refine hK.out _ _ hHeld ?_
   clear hHeld hK K0
   intro hHeld
   try simp only [Act.put,sA,sZ,sS]
   refine rd 8 26 rfl fun K0 hK=>?_
   go_simp
   refine ((TF _).out).mono ?_
   rintro e _ ⟨rfl,rfl⟩
   refine hK.out _ _ hHeld ?_
   clear hHeld hK K0
   intro hHeld
   try simp only [Act.put,sA,sZ,sS]
   refine tz 9 17 rfl hHeld ?_
   refine tz 10 27 rfl hHeld ?_
   refine tz 11 28 rfl hHeld ?_
   refine tz 12 9 rfl hHeld ?_
   refine tz 13 10 rfl hHeld ?_
   refine wpAnyH_done (by kernel_rfl) ?_ _
   have L2:=hHeld.1
   have T_2:=hHeld.2.at_ (v:=.int .i64 (lf:Nat)) 2 rfl
   have T_3:=hHeld.2.at_ (v:=.int .i64 (fr:Nat)) 3 rfl
   have T_zz:=hHeld.2.lt
   have I_0:=L2.at_ 1 0 rfl (v:=.int .i64 0) rfl
   have I_f:=L2.fz 1 0 rfl
   have I_z:=L2.lt 1 rfl
   have B_0:=L2.at_ 0 0 rfl (v:=.bool false) rfl
   have B_f:=L2.fz 0 0 rfl
   have B_z:=L2.lt 0 rfl
   have ne_B_I:=L2.ne_ 0 1 rfl rfl (by decide)
   replace hfr2:=Lib.hid hfr2
   gi_wp2
   have L3:=(L2.set 1 0 rfl (.int .i64 (r1:Nat))).set 0 0 rfl (.bool bo)
   try dsimp only [nput] at L3
   refine ⟨(hKO.trans ((KeepsOthers.setCell _ _ _).trans (KeepsOthers.setCell _ _ _))).from _,rfl,r1,bo,L3,fun e=>⟨r1,rfl,?_⟩,fun e=>?_⟩
   ·rw [hcl.out,hX.out,hfr2.out,if_pos e]
   ·rw [hcl.out,hX.out,hfr2.out,e];rfl
  ·have hne:((q:Int) == (t:Int))=false:=by simp;omega
   gi_wp2
   exact ⟨KeepsFrom.refl _ _,Below.refl _ _,L1,hpx.out hqt⟩
 case done =>
  rintro D zs W hD ⟨hpre,hlen⟩ ⟨L1,hp⟩ hK
  clear TF TL
  have hno:fre a b (gt ys (lv M+t)) t=none:=by
   unfold fre
   rw [inT_no]
   ·rfl
   ·intro hin
    have hj:t - a/64<zs.length:=by omega
    have h1:=hp zs[t - a/64] (List.getElem_mem hj)
    have e:(zs[t - a/64]).val=t - a/64:=by
     have e2:(zs.map (·.val))[t - a/64]? = some (t - a/64):=by rw [show zs.map (·.val)=_ from hpre];simp [hj]
     simpa [hj] using e2
    omega
  replace hno:=Lib.hid hno
  have I_0:=L1.at_ 1 0 rfl (v:=.int .i64 0) rfl
  have I_f:=L1.fz 1 0 rfl
  have I_z:=L1.lt 1 rfl
  have B_0:=L1.at_ 0 0 rfl (v:=.bool false) rfl
  have B_f:=L1.fz 0 0 rfl
  have B_z:=L1.lt 0 rfl
  have ne_B_I:=L1.ne_ 0 1 rfl rfl (by decide)
  gi_wp2
  have L2:=(L1.set 1 0 rfl (.int .i64 0)).set 0 0 rfl (.bool false)
  try dsimp only [nput] at L2
  have hK2:=((KeepsOthers.setCell W ⟨gI,0,none⟩ (.int .i64 0)).trans (KeepsOthers.setCell _ ⟨gB,0,none⟩ (.bool false))).same D _ hK rfl
  refine ⟨by simp,.inl ⟨_,_,rfl,run_takeDeferred hK2,?_⟩⟩
  have L3:=loc_put L2 (o':=.deferred none) (Nat.le_trans hz hD) hK2 rfl
  have c1:=L3.at_ 1 0 rfl (v:=.int .i64 0) rfl
  have c2:=L3.at_ 0 0 rfl (v:=.bool false) rfl
  refine ⟨.tuple #[.int .i64 0,.bool false],?_,0,false,rfl,(fun e=>by cases e),(fun _=>hno.out),L3.K⟩
  simp [results,Tryz.f127,go_sem,c1,c2]
 case stop =>
  rintro D cc pre W hD hpre ⟨rfl,i,bo,L1,h3⟩ hK
  gi_wp2
  refine ⟨by simp,.inl ⟨_,_,rfl,run_takeDeferred hK,?_⟩⟩
  have L3:=loc_put L1 (o':=.deferred none) (Nat.le_trans hz hD) hK rfl
  have c1:=L3.at_ 1 0 rfl (v:=.int .i64 i) rfl
  have c2:=L3.at_ 0 0 rfl (v:=.bool bo) rfl
  refine ⟨.tuple #[.int .i64 i,.bool bo],?_,i,bo,rfl,h3.1,h3.2,L3.K⟩
  simp [results,Tryz.f127,go_sem,c1,c2]
end
end Go.Proofs.YtfhefofkhmkcnaaGreatDoor

/-
 What seek.Step answers of an operation that seeks. Conditions: a block that may be,as many cells as there are,a shard that there is.
-/
namespace Go.Proofs.YtfhefofkhmkcnaaGreatDoor
set_option maxRecDepth 100000
set_option maxRecDepth 100000
open Go.RowKit
set_option maxHeartbeats 8000000
set_option linter.unusedVariables false
def tF (b1 b2 b3 n a b:Nat):Fct:=⟨fun w=>Clo w b1 b2 b3 n a b,fun g=>g=b1∨g=b2∨g=b3⟩
theorem cell_same {w w':World} {b o:Nat} {v:Value} (h:w'.heap[b]? = w.heap[b]?) (e:w.cell? ⟨b,o,none⟩=some v):w'.cell? ⟨b,o,none⟩=some v:=by
 unfold World.cell? at e ⊢
 rw [h];exact e
theorem tF_ok (b1 b2 b3 n a b:Nat):(tF b1 b2 b3 n a b).Ok :=
 ⟨fun w w' h hs hk=>⟨cell_same (hk b1 h.l1 (.inl rfl)) h.c1,cell_same (hk b2 h.l2 (.inr (.inl rfl))) h.c2,cell_same (hk b3 h.l3 (.inr (.inr rfl))) h.c3,Nat.lt_of_lt_of_le h.l1 hs,Nat.lt_of_lt_of_le h.l2 hs,Nat.lt_of_lt_of_le h.l3 hs⟩,
  fun w b h hf=>hf.elim (fun e=>e ▸ h.l1) (fun hf=>hf.elim (fun e=>e ▸ h.l2) (fun e=>e ▸ h.l3))⟩
def RetTops (n a b:Nat) (w:World) (e:Ending) (w':World):Prop:=∃ b1 b2 b3,e=.returned (tpsV b1 b2 b3)∧Clo w' b1 b2 b3 n a b∧(w.heap.size≤b1∧w.heap.size≤b2∧w.heap.size≤b3)∧Below w.heap.size w w'
theorem Loc.tops {w0 w:World} {bs:List Bl} {fs:List Fct} {b1 b2 b3 n a b lo:Nat} (L:Loc w0 w bs fs) (hl:∀ i x,nth bs i=some x→x.1<lo) (hC:Clo w b1 b2 b3 n a b) (hb:lo≤b1∧lo≤b2∧lo≤b3):Loc w0 w bs (tF b1 b2 b3 n a b :: fs) :=
 L.add _ hC (tF_ok _ _ _ _ _ _) fun i x e hf=>by
  have:=hl i x e
  rcases hf with h | h | h <;> omega
theorem topsf_any (n a b:Nat) (w:World):Calls Tryz.prog 139 #[.int .i64 (n:Int),.int .i64 (a:Int),.int .i64 (b:Int)] w (RetTops n a b w):=by
 go_enter Tryz.func139,Tryz.ntmps139
 go_wp2
 have L:=Loc.start w
 replace L:=(((L).alloc #[.int .i64 (n:Int)] 3).alloc #[.int .i64 (a:Int)] 3).alloc #[.int .i64 (b:Int)] 3
 try simp only [World.size_alloc] at L
 go_ret
 exact ⟨w.heap.size+1,w.heap.size+1+1,w.heap.size,rfl,⟨L.at_ 1 0 rfl rfl,L.at_ 0 0 rfl rfl,L.at_ 2 0 rfl rfl,L.lt 1 rfl,L.lt 0 rfl,L.lt 2 rfl⟩,⟨by omega,by omega,by omega⟩,L.K⟩
section
variable {w:World} {lo a M m d ns hd k tt:Nat} {p wo qu tr:Int} {A B:Option Addr} {n c:Nat} {ys:List Nat} {h:Hd} {s:Sc} {l:Ls}
theorem sought_any (ha:a<4294967296) (hM:Much a p M) (h1:1≤ns) (h2:ns≤64) (hsh:s.shard=(hd:Int)) (hhd:hd<ns) (hso:s.sought=(k:Int)) (hk:k<ns) :
  Calls Tryz.prog 123 #[.agg #[.int .u32 (a:Int),.int .i64 p,.slice A n c,.int .i64 (ns:Int),.int .i64 wo,.int .i64 qu,.int .i64 tr],.agg (opv h s)] w (RetTops M (ct (lv M) ns ((hd+k)%ns)) (ct (lv M) ns ((hd+k)%ns+1)) w):=by
 have TM:=fun w=>Lib.hid (many_yes (w:=w) ha hM)
 have TFr:=fun w=>Lib.hid (from_any ns hd k h1 h2 hhd (by omega) w)
 have TR:=fun w=>Lib.hid (range_any M ns ((hd+k)%ns) hM.most h1 h2 (Nat.mod_lt _ h1) w)
 generalize (ct (lv M) ns ((hd+k)%ns))=qa at TR ⊢
 generalize (ct (lv M) ns ((hd+k)%ns+1))=qb at TR ⊢
 generalize (hd+k)%ns=q at TR TFr
 clear hM ha hhd hk h1 h2
 rcases s with ⟨kind,addr,err,aad,used,phase,shard,sought,leaf,bit,word,full,at_,tries,item,stamp⟩
 rcases h with ⟨A0,n0,c0,A1,n1,c1,A2,n2,c2,A3,n3,c3⟩
 dsimp only at *
 subst hsh hso
 go_enter Tryz.func123,Tryz.ntmps123
 go_upto_region 1 with (fail)
 have L:=Loc.start w
 replace L:=((L).alloc #[.int .u32 (a:Int),.int .i64 p,.slice A n c,.int .i64 (ns:Int),.int .i64 wo,.int .i64 qu,.int .i64 tr] 27).alloc (opv ⟨A0,n0,c0,A1,n1,c1,A2,n2,c2,A3,n3,c3⟩ ⟨kind,addr,err,aad,used,phase,(hd:Int),(k:Int),leaf,bit,word,full,at_,tries,item,stamp⟩) 43
 try simp only [World.size_alloc] at L
 try dsimp only [nput] at L
 generalize ((w).alloc (.cells #[.int .u32 (a:Int),.int .i64 p,.slice A n c,.int .i64 (ns:Int),.int .i64 wo,.int .i64 qu,.int .i64 tr] 27)).alloc (.cells (opv ⟨A0,n0,c0,A1,n1,c1,A2,n2,c2,A3,n3,c3⟩ ⟨kind,addr,err,aad,used,phase,(hd:Int),(k:Int),leaf,bit,word,full,at_,tries,item,stamp⟩) 43)=w1 at L ⊢
 generalize w.heap.size+1=gO at L ⊢
 generalize w.heap.size=gH at L ⊢
 have H_0:=L.at_ 1 0 rfl (v:=.int .u32 (a:Int)) rfl
 have H_1:=L.at_ 1 1 rfl (v:=.int .i64 p) rfl
 have H_z:=L.lt 1 rfl
 go_wp2_with fail
 refine ((TM _).out).mono ?_
 rintro e w2 ⟨rfl,K'⟩
 clear H_0 H_1 H_z
 replace L:=L.over K'
 go_upto_region 2 with (fail)
 refine rg L fun v3 hHeld=>?_
 replace L:=hHeld
 refine tg 0 12 (.int .i64 (M:Int)) rfl hHeld ?_
 refine tg 1 13 (.pointer (some ⟨gH,3,none⟩)) rfl hHeld ?_
 refine tC 2 14 1 3 rfl rfl rfl hHeld ?_
 refine tg 3 15 (.pointer (some ⟨gH,3,none⟩)) rfl hHeld ?_
 refine tC 4 16 1 3 rfl rfl rfl hHeld ?_
 refine tg 5 17 (.pointer (some ⟨gO,9,none⟩)) rfl hHeld ?_
 refine tC 6 18 0 9 rfl rfl rfl hHeld ?_
 refine tg 7 19 (.pointer (some ⟨gO,10,none⟩)) rfl hHeld ?_
 refine tC 8 20 0 10 rfl rfl rfl hHeld ?_
 refine rd 9 21 rfl fun K0 hK=>?_
 go_simp
 refine ((TFr _).out).mono ?_
 rintro e w' ⟨rfl,rfl⟩
 refine hK.out _ _ L ?_
 clear hHeld hK K0
 intro hHeld
 try simp only [Act.put,sA,sZ,sS]
 refine rd 10 22 rfl fun K0 hK=>?_
 go_simp
 refine ((TR _).out).mono ?_
 rintro e w4 ⟨rfl,K'⟩
 replace L:=L.over K'
 refine hK.out _ _ L ?_
 clear hHeld hK K0
 intro hHeld
 clear K'
 try simp only [Act.put,sA,sZ,sS]
 refine tz 11 11 rfl hHeld ?_
 refine tg 12 23 (.int .i64 (qa:Nat)) rfl hHeld ?_
 refine tg 13 24 (.int .i64 (qb:Nat)) rfl hHeld ?_
 refine tg 14 6 (.int .i64 (qa:Nat)) rfl hHeld ?_
 refine tg 15 7 (.int .i64 (qb:Nat)) rfl hHeld ?_
 refine wpAnyH_done (by kernel_rfl) ?_ _
 clear hHeld
 go_wp2_with fail
 have KS:=L.K.size
 refine (topsf_any M qa qb _).mono ?_
 rintro e w5 ⟨b1,b2,b3,rfl,hC,hb,K'⟩
 have Lb:=L.lts
 replace L:=L.over K'
 replace L:=L.tops Lb hC hb
 clear Lb
 try dsimp only [lF,List.cons_append,List.nil_append] at L
 clear hC
 go_wp2
 go_ret
 exact ⟨_,_,_,rfl,L.get 0 rfl,⟨Nat.le_trans KS hb.1,Nat.le_trans KS hb.2.1,Nat.le_trans KS hb.2.2⟩,L.K⟩
theorem sroot_any (ha:a<4294967296) (hM:Much a p M) :
  Calls Tryz.prog 125 #[.agg #[.int .u32 (a:Int),.int .i64 p,.slice A n c,.int .i64 (ns:Int),.int .i64 wo,.int .i64 qu,.int .i64 tr]] w (fun e w'=>e=.returned (.int .i64 ((lv M+tv M:Nat)))∧Below w.heap.size w w'):=by
 have TM:=fun w=>Lib.hid (many_yes (w:=w) ha hM)
 have TR:=fun w=>Lib.hid (rootof_any M 0 hM.most (by omega) w)
 generalize lv M+tv M=rc at TR ⊢
 clear hM ha
 go_enter Tryz.func125,Tryz.ntmps125
 go_upto_region 1 with (fail)
 have L:=Loc.start w
 replace L:=(L).alloc #[.int .u32 (a:Int),.int .i64 p,.slice A n c,.int .i64 (ns:Int),.int .i64 wo,.int .i64 qu,.int .i64 tr] 27
 try simp only [World.size_alloc] at L
 try dsimp only [nput] at L
 generalize (w).alloc (.cells #[.int .u32 (a:Int),.int .i64 p,.slice A n c,.int .i64 (ns:Int),.int .i64 wo,.int .i64 qu,.int .i64 tr] 27)=w1 at L ⊢
 generalize w.heap.size=gH at L ⊢
 have H_0:=L.at_ 0 0 rfl (v:=.int .u32 (a:Int)) rfl
 have H_1:=L.at_ 0 1 rfl (v:=.int .i64 p) rfl
 have H_z:=L.lt 0 rfl
 go_wp2_with fail
 refine ((TM _).out).mono ?_
 rintro e w2 ⟨rfl,K'⟩
 clear H_0 H_1 H_z
 replace L:=L.over K'
 go_wp2_with fail
 refine ((TR _).out).mono ?_
 rintro e w' ⟨rfl,rfl⟩
 go_wp2
 go_ret
 exact ⟨rfl,L.K⟩
/-- What a step of seeking answers: the operation, with lists of its own. -/
def RetSk (s:Sc) (l:Ls) (w:World) (e:Ending) (w':World):Prop:=∃ h',e=.returned (.agg (opv h' s))∧Lists w.heap.size w' h' l∧Below w.heap.size w w'
theorem free_yes {a b b1 b2 b3 M m d t j:Nat} {B:Option Addr} {ys:List Nat} {w:World} (hM:M≤65536) (hab:a≤b) (hb:b≤lv M) (hU:US w B m d ys) (hm:lv M+tv M<m) (ht:t≤64) (hC:Clo w b1 b2 b3 M a b) (hf:fre a b (gt ys (lv M+t)) t=some j) :
  Calls Tryz.prog 127 #[.slice B m d,tpsV b1 b2 b3,.int .i64 (t:Int)] w fun e w'=>e=.returned (.tuple #[.int .i64 (j:Nat),.bool true])∧Below w.heap.size w w':=by
 refine (free_any hM hab hb hU hm ht hC).mono ?_
 rintro e w' ⟨i,bo,rfl,h1,h2,K⟩
 cases bo with
 | true =>
  obtain ⟨j',rfl,e⟩:=h1 rfl
  rw [hf] at e;cases e
  exact ⟨rfl,K⟩
 | false=>have:=h2 rfl;rw [hf] at this;cases this
theorem free_no {a b b1 b2 b3 M m d t:Nat} {B:Option Addr} {ys:List Nat} {w:World} (hM:M≤65536) (hab:a≤b) (hb:b≤lv M) (hU:US w B m d ys) (hm:lv M+tv M<m) (ht:t≤64) (hC:Clo w b1 b2 b3 M a b) (hf:fre a b (gt ys (lv M+t)) t=none) :
  Calls Tryz.prog 127 #[.slice B m d,tpsV b1 b2 b3,.int .i64 (t:Int)] w fun e w'=>∃ i,e=.returned (.tuple #[.int .i64 i,.bool false])∧Below w.heap.size w w':=by
 refine (free_any hM hab hb hU hm ht hC).mono ?_
 rintro e w' ⟨i,bo,rfl,h1,h2,K⟩
 cases bo with
 | true=>obtain ⟨j',_,e⟩:=h1 rfl;rw [hf] at e;cases e
 | false=>exact ⟨i,rfl,K⟩
theorem sstep_root (hL:Lists lo w h l) (h0:h.n0≤65536) (hn1:h.n1≤65536) (hn2:h.n2≤65536) (hn3:h.n3≤65536) (hU:US w B m d ys) (hm:lv M+tv M<m) (hw:s.word<18446744073709551616) (hph:s.phase=1) (ha:a<4294967296) (hM:Much a p M) (h1:1≤ns) (h2:ns≤64) (hsh:s.shard=(hd:Int)) (hhd:hd<ns) (hso:s.sought=(k:Int)) (hk:k<ns) (hat:s.at_=0) :
  Calls Tryz.prog 116 #[.agg #[.int .u32 (a:Int),.int .i64 p,.slice A n c,.int .i64 (ns:Int),.int .i64 wo,.int .i64 qu,.int .i64 tr],.slice B m d,.agg (opv h s)] w (RetSk (onS (ns:Int) (ct (lv M) ns ((hd+k)%ns)) (ct (lv M) ns ((hd+k)%ns+1)) (wdS s (gt ys (lv M+tv M)))) (onL (ns:Int) (ct (lv M) ns ((hd+k)%ns)) (ct (lv M) ns ((hd+k)%ns+1)) (wdS s (gt ys (lv M+tv M))) l) w):=by
 have TOwn:=fun w (L:Lists lo w h l)=>Lib.hid (own_any (s:=s) L h0 hn1 hn2 hn3)
 have TS:=fun w h=>Lib.hid (sought_any (w:=w) (wo:=wo) (qu:=qu) (tr:=tr) (A:=A) (n:=n) (c:=c) (h:=h) (s:=s) ha hM h1 h2 hsh hhd hso hk)
 have hq1:(hd+k)%ns<ns:=Nat.mod_lt _ h1
 have hqab:(ct (lv M) ns ((hd+k)%ns))≤(ct (lv M) ns ((hd+k)%ns+1)):=ct_mono (by omega)
 have hqb:(ct (lv M) ns ((hd+k)%ns+1))≤lv M:=by have:=ct_mono (L:=lv M) (p:=ns) (show (hd+k)%ns+1≤ns by omega);rw [ct_all h1] at this;exact this
 have hM2:=hM.most
 have TRo:=fun w=>Lib.hid (sroot_any (w:=w) (ns:=ns) (wo:=wo) (qu:=qu) (tr:=tr) (A:=A) (n:=n) (c:=c) ha hM)
 have TL:=fun w (U:US w B m d ys)=>Lib.hid (load_nat U (lv M+tv M) hm)
 have hx:=gt_lt hU.fit (lv M+tv M)
 have TO:=fun w b1 b2 b3 h (hC:Clo w b1 b2 b3 M (ct (lv M) ns ((hd+k)%ns)) (ct (lv M) ns ((hd+k)%ns+1)))=>Lib.hid (sonward_any (w:=w) (ba:=a) (p:=p) (sh:=(ns:Int)) (wo:=wo) (qu:=qu) (tr:=tr) (A:=A) (n:=n) (c:=c) (h:=h) (s:=wdS s (gt ys (lv M+tv M))) (tt:=0) hM2 hqab hqb (show (s.at_:Int)=((0:Nat):Int) by rw [hat];rfl) (by omega) hx (show 0≤s.sought by rw [hso];omega) (show s.sought≤65536 by rw [hso];omega) hC)
 generalize gt ys (lv M+tv M)=x at *
 generalize lv M+tv M=rc at TRo TL
 generalize (ct (lv M) ns ((hd+k)%ns))=qa at *
 generalize (ct (lv M) ns ((hd+k)%ns+1))=qb at *
 clear hm hqab hqb hx hw hM hM2 hq1 ha hhd hk h1 h2
 rcases s with ⟨kind,addr,err,aad,used,phase,shard,sought,leaf,bit,word,full,at_,tries,item,stamp⟩
 rcases h with ⟨A0,n0,c0,A1,n1,c1,A2,n2,c2,A3,n3,c3⟩
 dsimp only at *
 subst hph hsh hso hat
 dsimp only [wdS] at *
 go_enter Tryz.func116,Tryz.ntmps116
 go_upto_region 1 with (fail)
 have L:=Loc.start w
 generalize hal:World.alloc _ _=w1
 replace L:=L.a3 hal
 clear hal
 replace L:=L.is0 (opv hd0 sc0) rfl
 generalize w.heap.size+1+1=gR at L ⊢
 generalize w.heap.size+1=gO at L ⊢
 generalize w.heap.size=gH at L ⊢
 go_wp2_with (refine lO 5 (L.bk_ 1 rfl) ?_)
 have KS:=L.K.size
 have LbO:=L.gs
 refine ((TOwn _ (hL.below L.K)).out).mono ?_
 rintro e w2 ⟨A0',c0',A1',c1',A2',c2',A3',c3',rfl,L',K'⟩
 have Lb:=L.lts
 replace L:=L.over K'
 replace L:=L.lists Lb L'
 replace L:=L.sz K'.size
 clear Lb
 try dsimp only [lF,List.cons_append,List.nil_append] at L
 clear L'
 go_upto_region 2 with (refine sO 5 11 (L.bk_ 1 rfl) rfl rfl ?_)
 generalize hal:World.setRow _ _ _=w3
 replace L:=L.rr1 hal
 clear hal
 have O_8:=L.at_ 1 8 rfl (v:=.int .i64 1) rfl
 have O_z:=L.lt 1 rfl
 go_wp2_with (first | (refine lC 3 (L.bk_ 2 rfl) ?_) | (refine lO 5 (L.bk_ 1 rfl) ?_))
 refine ((TS _ _).out).mono ?_
 rintro e w4 ⟨b1,b2,b3,rfl,hC,hb,K'⟩
 clear O_8 O_z
 have Lb:=L.lts
 replace L:=L.over K'
 replace L:=L.tops Lb hC hb
 clear Lb
 try dsimp only [lF,List.cons_append,List.nil_append] at L
 clear hC hb
 have O_16:=L.at_ 1 16 rfl (v:=.int .i64 0) rfl
 have O_z:=L.lt 1 rfl
 go_wp2_with (refine lC 3 (L.bk_ 2 rfl) ?_)
 refine ((TRo _).out).mono ?_
 rintro e w5 ⟨rfl,K'⟩
 clear O_16 O_z
 replace L:=L.over K'
 go_wp2_with fail
 refine ((TL _ (hU.below L.K)).out).mono ?_
 rintro e w' ⟨rfl,rfl⟩
 have O_13:=L.at_ 1 13 rfl (v:=.int .u64 ((word:Nat):Int)) rfl
 have O_z:=L.lt 1 rfl
 have O_f13:=L.fz 1 13 rfl
 go_upto_region 7 with fail
 clear O_13 O_z O_f13
 generalize hal:World.setCell _ _ _=w6
 replace L:=L.sc1 hal (l9:=(opv ⟨A0',n0,c0',A1',n1,c1',A2',n2,c2',A3',n3,c3'⟩ ⟨kind,addr,err,aad,used,1,(hd:Int),(k:Int),leaf,bit,x,full,0,tries,item,stamp⟩)) rfl
 clear hal
 go_wp2_with (first | (refine lC 3 (L.bk_ 2 rfl) ?_) | (refine lO 5 (L.bk_ 1 rfl) ?_))
 refine ((TO _ _ _ _ _ (L.get 0 rfl)).out).mono ?_
 rintro e w7 ⟨rfl,K'⟩
 replace L:=L.over K'
 go_wp2_with (refine sO 6 30 (L.bk_ 0 rfl) rfl rfl ?_)
 generalize hal:World.setRow _ _ _=w8
 replace L:=L.rr0 hal
 clear hal
 refine eC Tryz.results116 (L.bk_ 0 rfl) ?_
 exact ⟨_,rfl,onLists ((L.lists_at 2 rfl).lower_ KS),L.K⟩
theorem sstep_found (hL:Lists lo w h l) (h0:h.n0≤65536) (hn1:h.n1≤65536) (hn2:h.n2≤65536) (hn3:h.n3≤65536) (hU:US w B m d ys) (hm:lv M+tv M<m) (hw:s.word<18446744073709551616) (hph:s.phase=1) (ha:a<4294967296) (hM:Much a p M) (h1:1≤ns) (h2:ns≤64) (hsh:s.shard=(hd:Int)) (hhd:hd<ns) (hso:s.sought=(k:Int)) (hk:k<ns) (hat:s.at_=(tt:Int)) (ht0:1≤tt) (htt:tt≤64) {j:Nat} (hf:fre (ct (lv M) ns ((hd+k)%ns)) (ct (lv M) ns ((hd+k)%ns+1)) (gt ys (lv M+(tt - 1))) (tt - 1)=some j) :
  Calls Tryz.prog 116 #[.agg #[.int .u32 (a:Int),.int .i64 p,.slice A n c,.int .i64 (ns:Int),.int .i64 wo,.int .i64 qu,.int .i64 tr],.slice B m d,.agg (opv h s)] w (RetSk (foundS s j) l w):=by
 have TOwn:=fun w (L:Lists lo w h l)=>Lib.hid (own_any (s:=s) L h0 hn1 hn2 hn3)
 have TS:=fun w h=>Lib.hid (sought_any (w:=w) (wo:=wo) (qu:=qu) (tr:=tr) (A:=A) (n:=n) (c:=c) (h:=h) (s:=s) ha hM h1 h2 hsh hhd hso hk)
 have hq1:(hd+k)%ns<ns:=Nat.mod_lt _ h1
 have hqab:(ct (lv M) ns ((hd+k)%ns))≤(ct (lv M) ns ((hd+k)%ns+1)):=ct_mono (by omega)
 have hqb:(ct (lv M) ns ((hd+k)%ns+1))≤lv M:=by have:=ct_mono (L:=lv M) (p:=ns) (show (hd+k)%ns+1≤ns by omega);rw [ct_all h1] at this;exact this
 have hM2:=hM.most
 have TFe:=fun w b1 b2 b3 (U:US w B m d ys) (hC:Clo w b1 b2 b3 M (ct (lv M) ns ((hd+k)%ns)) (ct (lv M) ns ((hd+k)%ns+1)))=>Lib.hid (free_yes (w:=w) (t:=tt - 1) hM2 hqab hqb U hm (by omega) hC hf)
 obtain ⟨t1,ht1⟩:∃ t1:Nat,tt=t1+1:=⟨tt - 1,by omega⟩
 have e1:(tt:Int) - 1=((tt - 1:Nat):Int):=by omega
 have e0:((tt:Int) == 0)=false:=by simp;omega
 generalize tt - 1=t0 at *
 have htb:tt≤64:=htt
 clear ht1 ht0
 generalize (ct (lv M) ns ((hd+k)%ns))=qa at *
 generalize (ct (lv M) ns ((hd+k)%ns+1))=qb at *
 clear hm hqab hqb hw hM hM2 hq1 ha hhd hk h1 h2 hf htt
 rcases s with ⟨kind,addr,err,aad,used,phase,shard,sought,leaf,bit,word,full,at_,tries,item,stamp⟩
 rcases h with ⟨A0,n0,c0,A1,n1,c1,A2,n2,c2,A3,n3,c3⟩
 dsimp only at *
 subst hph hsh hso hat
 go_enter Tryz.func116,Tryz.ntmps116
 go_upto_region 1 with (fail)
 have L:=Loc.start w
 generalize hal:World.alloc _ _=w1
 replace L:=L.a3 hal
 clear hal
 replace L:=L.is0 (opv hd0 sc0) rfl
 generalize w.heap.size+1+1=gR at L ⊢
 generalize w.heap.size+1=gO at L ⊢
 generalize w.heap.size=gH at L ⊢
 go_wp2_with (refine lO 5 (L.bk_ 1 rfl) ?_)
 have KS:=L.K.size
 have LbO:=L.gs
 refine ((TOwn _ (hL.below L.K)).out).mono ?_
 rintro e w2 ⟨A0',c0',A1',c1',A2',c2',A3',c3',rfl,L',K'⟩
 have Lb:=L.lts
 replace L:=L.over K'
 replace L:=L.lists Lb L'
 replace L:=L.sz K'.size
 clear Lb
 try dsimp only [lF,List.cons_append,List.nil_append] at L
 clear L'
 go_upto_region 2 with (refine sO 5 11 (L.bk_ 1 rfl) rfl rfl ?_)
 generalize hal:World.setRow _ _ _=w3
 replace L:=L.rr1 hal
 clear hal
 have O_8:=L.at_ 1 8 rfl (v:=.int .i64 1) rfl
 have O_z:=L.lt 1 rfl
 go_wp2_with (first | (refine lC 3 (L.bk_ 2 rfl) ?_) | (refine lO 5 (L.bk_ 1 rfl) ?_))
 refine ((TS _ _).out).mono ?_
 rintro e w4 ⟨b1,b2,b3,rfl,hC,hb,K'⟩
 clear O_8 O_z
 have Lb:=L.lts
 replace L:=L.over K'
 replace L:=L.tops Lb hC hb
 clear Lb
 try dsimp only [lF,List.cons_append,List.nil_append] at L
 clear hC hb
 have O_16:=L.at_ 1 16 rfl (v:=.int .i64 (tt:Int)) rfl
 have O_z:=L.lt 1 rfl
 go_wp2_with fail
 refine ((TFe _ _ _ _ (hU.below L.K) (L.get 0 rfl)).out).mono ?_
 rintro e w5 ⟨rfl,K'⟩
 clear O_16 O_z
 replace L:=L.over K'
 have O_8:=L.at_ 1 8 rfl (v:=.int .i64 1) rfl
 have O_11:=L.at_ 1 11 rfl (v:=.int .i64 leaf) rfl
 have O_13:=L.at_ 1 13 rfl (v:=.int .u64 ((word:Nat):Int)) rfl
 have O_16:=L.at_ 1 16 rfl (v:=.int .i64 (tt:Int)) rfl
 have O_z:=L.lt 1 rfl
 have O_f8:=L.fz 1 8 rfl
 have O_f11:=L.fz 1 11 rfl
 have O_f13:=L.fz 1 13 rfl
 have O_f16:=L.fz 1 16 rfl
 go_upto_region 12 with fail
 clear O_8 O_11 O_13 O_16 O_z O_f8 O_f11 O_f13 O_f16
 replace L:=(((((L.set 1 8 rfl (.int .i64 2)).set 1 11 rfl (.int .i64 (j:Nat))).set 1 13 rfl (.int .u64 0)).set 1 16 rfl (.int .i64 0)).is 1 (opv ⟨A0',n0,c0',A1',n1,c1',A2',n2,c2',A3',n3,c3'⟩ ⟨kind,addr,err,aad,used,2,(hd:Int),(k:Int),(j:Nat),bit,0,full,0,tries,item,stamp⟩) rfl)
 try dsimp only [nput] at L
 generalize ((((w5).setCell ⟨gO,8,none⟩ (.int .i64 2)).setCell ⟨gO,11,none⟩ (.int .i64 (j:Nat))).setCell ⟨gO,13,none⟩ (.int .u64 0)).setCell ⟨gO,16,none⟩ (.int .i64 0)=w6 at L ⊢
 go_wp2_with (first | (refine lO 5 (L.bk_ 1 rfl) ?_) | (refine sO 6 51 (L.bk_ 0 rfl) rfl rfl ?_))
 generalize hal:World.setRow _ _ _=w7
 replace L:=L.rr0 hal
 clear hal
 refine eC Tryz.results116 (L.bk_ 0 rfl) ?_
 exact ⟨_,rfl,(L.lists_at 2 rfl).lower_ KS,L.K⟩
theorem sstep_on (hL:Lists lo w h l) (h0:h.n0≤65536) (hn1:h.n1≤65536) (hn2:h.n2≤65536) (hn3:h.n3≤65536) (hU:US w B m d ys) (hm:lv M+tv M<m) (hw:s.word<18446744073709551616) (hph:s.phase=1) (ha:a<4294967296) (hM:Much a p M) (h1:1≤ns) (h2:ns≤64) (hsh:s.shard=(hd:Int)) (hhd:hd<ns) (hso:s.sought=(k:Int)) (hk:k<ns) (hat:s.at_=(tt:Int)) (ht0:1≤tt) (htt:tt≤64) (hf:fre (ct (lv M) ns ((hd+k)%ns)) (ct (lv M) ns ((hd+k)%ns+1)) (gt ys (lv M+(tt - 1))) (tt - 1)=none) :
  Calls Tryz.prog 116 #[.agg #[.int .u32 (a:Int),.int .i64 p,.slice A n c,.int .i64 (ns:Int),.int .i64 wo,.int .i64 qu,.int .i64 tr],.slice B m d,.agg (opv h s)] w (RetSk (onS (ns:Int) (ct (lv M) ns ((hd+k)%ns)) (ct (lv M) ns ((hd+k)%ns+1)) s) (onL (ns:Int) (ct (lv M) ns ((hd+k)%ns)) (ct (lv M) ns ((hd+k)%ns+1)) s l) w):=by
 have TOwn:=fun w (L:Lists lo w h l)=>Lib.hid (own_any (s:=s) L h0 hn1 hn2 hn3)
 have TS:=fun w h=>Lib.hid (sought_any (w:=w) (wo:=wo) (qu:=qu) (tr:=tr) (A:=A) (n:=n) (c:=c) (h:=h) (s:=s) ha hM h1 h2 hsh hhd hso hk)
 have hq1:(hd+k)%ns<ns:=Nat.mod_lt _ h1
 have hqab:(ct (lv M) ns ((hd+k)%ns))≤(ct (lv M) ns ((hd+k)%ns+1)):=ct_mono (by omega)
 have hqb:(ct (lv M) ns ((hd+k)%ns+1))≤lv M:=by have:=ct_mono (L:=lv M) (p:=ns) (show (hd+k)%ns+1≤ns by omega);rw [ct_all h1] at this;exact this
 have hM2:=hM.most
 have TFe:=fun w b1 b2 b3 (U:US w B m d ys) (hC:Clo w b1 b2 b3 M (ct (lv M) ns ((hd+k)%ns)) (ct (lv M) ns ((hd+k)%ns+1)))=>Lib.hid (free_no (w:=w) (t:=tt - 1) hM2 hqab hqb U hm (by omega) hC hf)
 have TO:=fun w b1 b2 b3 h (hC:Clo w b1 b2 b3 M (ct (lv M) ns ((hd+k)%ns)) (ct (lv M) ns ((hd+k)%ns+1)))=>Lib.hid (sonward_any (w:=w) (ba:=a) (p:=p) (sh:=(ns:Int)) (wo:=wo) (qu:=qu) (tr:=tr) (A:=A) (n:=n) (c:=c) (h:=h) (s:=s) (tt:=tt) hM2 hqab hqb hat (by omega) hw (by rw [hso];omega) (by rw [hso];omega) hC)
 obtain ⟨t1,ht1⟩:∃ t1:Nat,tt=t1+1:=⟨tt - 1,by omega⟩
 have e1:(tt:Int) - 1=((tt - 1:Nat):Int):=by omega
 have e0:((tt:Int) == 0)=false:=by simp;omega
 generalize tt - 1=t0 at *
 have htb:tt≤64:=htt
 clear ht1 ht0
 generalize (ct (lv M) ns ((hd+k)%ns))=qa at *
 generalize (ct (lv M) ns ((hd+k)%ns+1))=qb at *
 clear hm hqab hqb hw hM hM2 hq1 ha hhd hk h1 h2 hf htt
 rcases s with ⟨kind,addr,err,aad,used,phase,shard,sought,leaf,bit,word,full,at_,tries,item,stamp⟩
 rcases h with ⟨A0,n0,c0,A1,n1,c1,A2,n2,c2,A3,n3,c3⟩
 dsimp only at *
 subst hph hsh hso hat
 go_enter Tryz.func116,Tryz.ntmps116
 go_upto_region 1 with (fail)
 have L:=Loc.start w
 generalize hal:World.alloc _ _=w1
 replace L:=L.a3 hal
 clear hal
 replace L:=L.is0 (opv hd0 sc0) rfl
 generalize w.heap.size+1+1=gR at L ⊢
 generalize w.heap.size+1=gO at L ⊢
 generalize w.heap.size=gH at L ⊢
 go_wp2_with (refine lO 5 (L.bk_ 1 rfl) ?_)
 have KS:=L.K.size
 have LbO:=L.gs
 refine ((TOwn _ (hL.below L.K)).out).mono ?_
 rintro e w2 ⟨A0',c0',A1',c1',A2',c2',A3',c3',rfl,L',K'⟩
 have Lb:=L.lts
 replace L:=L.over K'
 replace L:=L.lists Lb L'
 replace L:=L.sz K'.size
 clear Lb
 try dsimp only [lF,List.cons_append,List.nil_append] at L
 clear L'
 go_upto_region 2 with (refine sO 5 11 (L.bk_ 1 rfl) rfl rfl ?_)
 generalize hal:World.setRow _ _ _=w3
 replace L:=L.rr1 hal
 clear hal
 have O_8:=L.at_ 1 8 rfl (v:=.int .i64 1) rfl
 have O_z:=L.lt 1 rfl
 go_wp2_with (first | (refine lC 3 (L.bk_ 2 rfl) ?_) | (refine lO 5 (L.bk_ 1 rfl) ?_))
 refine ((TS _ _).out).mono ?_
 rintro e w4 ⟨b1,b2,b3,rfl,hC,hb,K'⟩
 clear O_8 O_z
 have Lb:=L.lts
 replace L:=L.over K'
 replace L:=L.tops Lb hC hb
 clear Lb
 try dsimp only [lF,List.cons_append,List.nil_append] at L
 clear hC hb
 have O_16:=L.at_ 1 16 rfl (v:=.int .i64 (tt:Int)) rfl
 have O_z:=L.lt 1 rfl
 go_wp2_with fail
 refine ((TFe _ _ _ _ (hU.below L.K) (L.get 0 rfl)).out).mono ?_
 rintro e w5 ⟨i,rfl,K'⟩
 clear O_16 O_z
 replace L:=L.over K'
 go_wp2_with (first | (refine lC 3 (L.bk_ 2 rfl) ?_) | (refine lO 5 (L.bk_ 1 rfl) ?_))
 refine ((TO _ _ _ _ _ (L.get 0 rfl)).out).mono ?_
 rintro e w6 ⟨rfl,K'⟩
 replace L:=L.over K'
 go_wp2_with (refine sO 6 45 (L.bk_ 0 rfl) rfl rfl ?_)
 generalize hal:World.setRow _ _ _=w7
 replace L:=L.rr0 hal
 clear hal
 refine eC Tryz.results116 (L.bk_ 0 rfl) ?_
 exact ⟨_,rfl,onLists ((L.lists_at 2 rfl).lower_ KS),L.K⟩
theorem sstep_any (hL:Lists lo w h l) (h0:h.n0≤65536) (hn1:h.n1≤65536) (hn2:h.n2≤65536) (hn3:h.n3≤65536) (hU:US w B m d ys) (hm:lv M+tv M<m) (hw:s.word<18446744073709551616) (hph:s.phase=1) (ha:a<4294967296) (hM:Much a p M) (h1:1≤ns) (h2:ns≤64) (hsh:s.shard=(hd:Int)) (hhd:hd<ns) (hso:s.sought=(k:Int)) (hk:k<ns) (hat:s.at_=(tt:Int)) (htt:tt≤64) :
  Calls Tryz.prog 116 #[.agg #[.int .u32 (a:Int),.int .i64 p,.slice A n c,.int .i64 (ns:Int),.int .i64 wo,.int .i64 qu,.int .i64 tr],.slice B m d,.agg (opv h s)] w (RetSk (skS (ns:Int) M ys (ct (lv M) ns ((hd+k)%ns)) (ct (lv M) ns ((hd+k)%ns+1)) s) (skL (ns:Int) M ys (ct (lv M) ns ((hd+k)%ns)) (ct (lv M) ns ((hd+k)%ns+1)) s l) w):=by
 unfold skS skL
 rcases Nat.eq_zero_or_pos tt with rfl | ht
 ·rw [if_pos (show s.at_=0 from hat),if_pos (show s.at_=0 from hat)]
  exact sstep_root hL h0 hn1 hn2 hn3 hU hm hw hph ha hM h1 h2 hsh hhd hso hk hat
 ·have hne:s.at_≠0:=by omega
  rw [if_neg hne,if_neg hne,hat,Int.toNat_natCast]
  cases hf:fre (ct (lv M) ns ((hd+k)%ns)) (ct (lv M) ns ((hd+k)%ns+1)) (gt ys (lv M+(tt - 1))) (tt - 1) with
  | some j=>exact sstep_found hL h0 hn1 hn2 hn3 hU hm hw hph ha hM h1 h2 hsh hhd hso hk hat ht htt hf
  | none=>exact sstep_on hL h0 hn1 hn2 hn3 hU hm hw hph ha hM h1 h2 hsh hhd hso hk hat ht htt hf
end
end Go.Proofs.YtfhefofkhmkcnaaGreatDoor

/-
 What New of package word,and the document's,answer of a configuration that may be: the leaf's first word;nothing that was there is otherwise.
-/
namespace Go.Proofs.YtfhefofkhmkcnaaGreatDoor
set_option maxRecDepth 100000
set_option maxRecDepth 100000
open Go.RowKit
set_option maxHeartbeats 8000000
section
variable {w:World} {lo a M l:Nat} {p sh wo qu tr:Int} {A:Option Addr} {n c:Nat} {xs:List Int}
theorem wnew_any (ha:a<4294967296) (hM:Much a p M) (h:IS .i64 lo w A n c xs) (hn:n≤65536) (hr:risB M 0 xs=true) (hl:32*l<M) :
  Calls Tryz.prog 29 #[.agg #[.int .u32 a,.int .i64 p,.slice A n c,.int .i64 sh,.int .i64 wo,.int .i64 qu,.int .i64 tr],.int .i64 l] w fun e w'=>e=.returned (.int .u64 (nw M xs l))∧Below w.heap.size w w':=by
 have hlen:=h.len
 have hm:=hM.most
 have hwd:wd M l≤32:=by unfold wd;omega
 have hN:=Lib.hid (nw_first M l hl)
 have T1:=fun w=>Lib.hid (width_any M l hm (by omega) w)
 have T2:∀ w,Hid (Calls Tryz.prog 28 #[.int .i64 32] w fun e w'=>e=.returned (.int .u64 (msk 32))∧w=w'):=fun w=>mask_any 32 (by decide) w
 have T3:=fun w=>Lib.hid (mask_any (wd M l) (by omega) w)
 have hk1:=msk_lt (n:=32) (by decide)
 have hk2:=msk_lt (n:=wd M l) (by omega)
 generalize wd M l=W at *
 generalize msk W=m2 at *
 generalize msk 32=m1 at *
 have hA:Go.bits .andNot .u64 (m1:Int) (m2:Int)=(nw M [] l:Nat):=by rw [u64_andNot_nat m1 m2 hk1 hk2,hN.out]
 clear hN hk1 hk2
 have K:=below_alloc w (.cells #[.int .u32 a,.int .i64 p,.slice A n c,.int .i64 sh,.int .i64 wo,.int .i64 qu,.int .i64 tr] 27)
 have H:=Bk.new w #[.int .u32 a,.int .i64 p,.slice A n c,.int .i64 sh,.int .i64 wo,.int .i64 qu,.int .i64 tr] 27
 replace h:=h.below K
 go_enter Tryz.func29,Tryz.ntmps29
 go_wp2_with fail
 generalize w.alloc (.cells #[.int .u32 a,.int .i64 p,.slice A n c,.int .i64 sh,.int .i64 wo,.int .i64 qu,.int .i64 tr] 27)=w1 at H K h ⊢
 generalize w.heap.size=g at H ⊢
 refine (many_yes ha hM).mono ?_
 rintro e w2 ⟨rfl,K'⟩
 replace H:=H.below K'
 replace h:=h.below K'
 replace K:=Below.then_ K K'
 clear K'
 have H_0:=H.at_ (v:=.int .u32 a) 0 rfl
 have H_1:=H.at_ (v:=.int .i64 p) 1 rfl
 have H_2:=H.at_ (v:=.slice A n c) 2 rfl
 have H_3:=H.at_ (v:=.int .i64 sh) 3 rfl
 have H_4:=H.at_ (v:=.int .i64 wo) 4 rfl
 have H_5:=H.at_ (v:=.int .i64 qu) 5 rfl
 have H_6:=H.at_ (v:=.int .i64 tr) 6 rfl
 have H_z:=H.lt
 go_wp2_with (first
  | ((with_reducible refine ((T1 _).out).mono ?_);rintro e w' ⟨rfl,rfl⟩)
  | ((with_reducible refine ((T2 _).out).mono ?_);rintro e w' ⟨rfl,rfl⟩)
  | ((with_reducible refine ((T3 _).out).mono ?_);rintro e w' ⟨rfl,rfl⟩))
 clear T1 T2 T3 hA
 go_loop [6,23] (fun m i=>∃ k:Nat,k≤n∧i=.int .i64 k∧m=.int .u64 (nw M (xs.take k) l)) (fun _ i=>n - (intOf i).toNat)
 case atStart=>exact ⟨0,Nat.zero_le _,rfl,rfl⟩
 case round =>
  obtain ⟨k,hk,rfl,rfl⟩:=hrel
  by_cases hlt:k<n
  ·have hx:=risB_mem hr (gi_mem (xs:=xs) (j:=k) (by omega))
   obtain ⟨o,ho⟩:∃ o:Nat,gi xs k=(o:Int):=⟨(gi xs k).toNat,by omega⟩
   obtain ⟨b,off,rfl,_,hc⟩:=h.get hlt
   rw [ho] at hc
   have ho2:o≤65536:=by omega
   have T:=fun w=>Lib.hid (leaf_any o ho2 w)
   obtain ⟨q,hq⟩:∃ q:Nat,q=o/32:=⟨_,rfl⟩
   obtain ⟨r,hr2⟩:∃ r:Nat,r=o%32:=⟨_,rfl⟩
   have hr3:r<64:=by omega
   rw [← hq,← hr2] at T
   by_cases he:q=l
   ·have S:=Lib.hid (nw_hit (M:=M) (xs:=xs) (by omega) ho (hq.symm.trans he))
    rw [← hr2] at S
    have e1:((q:Int) == (l:Int))=true:=by simp [he]
    have T2:=fun w=>Lib.hid (with_any (nw M (xs.take k) l) r (nw_lt _ _ _) hr3 w)
    clear ho hx hq hr2 he
    go_wp2_with (first
     | ((with_reducible refine ((T _).out).mono ?_);rintro e w' ⟨rfl,rfl⟩)
     | ((with_reducible refine ((T2 _).out).mono ?_);rintro e w' ⟨rfl,rfl⟩))
    go_round
    case rel=>exact ⟨k+1,by omega,by go_num,by rw [S.out]⟩
    case measure=>simp [intOf];omega
   ·have S:=Lib.hid (nw_miss (M:=M) (xs:=xs) (l:=l) (by omega) ho (by omega))
    have e1:((q:Int) == (l:Int))=false:=by simp;omega
    clear ho hx hq hr2 he
    go_wp2_with ((with_reducible refine ((T _).out).mono ?_);rintro e w' ⟨rfl,rfl⟩)
    go_round
    case rel=>exact ⟨k+1,by omega,by go_num,by rw [S.out]⟩
    case measure=>simp [intOf];omega
  ·go_wp2
   go_ret
   have e:k=n:=by omega
   subst e
   refine ⟨ret_int ?_,K⟩
   rw [List.take_of_length_le (by omega)]
end
end Go.Proofs.YtfhefofkhmkcnaaGreatDoor

/-
 What Cells of package word answers of a configuration that may be: the first cells;nothing that was there is otherwise.
-/
namespace Go.Proofs.YtfhefofkhmkcnaaGreatDoor
set_option maxRecDepth 100000
set_option maxRecDepth 100000
open Go.RowKit
set_option maxHeartbeats 8000000
theorem Blk.below {w w':World} {g:Nat} {t:TypeId} {xs:List Nat} (h:Blk w g t xs) (K:Below w.heap.size w w'):Blk w' g t xs:=(K.block g h.lt).trans h
theorem wfree_any {w:World} {g M j:Nat} {xs:List Nat} (hB:Blk w g 41 xs) (hl:xs.length=lv M+tv M+1) (hf:∀ x∈xs,x<U64) (hm:M≤65536) (hj:j<lv M) :
  Calls Tryz.prog 31 #[.slice (some ⟨g,0,none⟩) (lv M+tv M+1) (lv M+tv M+1),.int .i64 M,.int .i64 j] w fun e w'=>e=.returned (.tuple #[])∧Blk w' g 41 ((xs.set (lv M+j/64) (clrb (gt xs (lv M+j/64)) (j%64))).set (lv M+tv M) (clrb (gt xs (lv M+tv M)) (j/64)))∧Below g w w':=by
 have h1:=lv_le hm
 have h2:=tv_le hm
 have h3:j/64<tv M:=by unfold tv tq;omega
 have T1:=fun w=>Lib.hid (top_any M j hm (by omega) w)
 have T2:=fun w=>Lib.hid (rootof_any M j hm (by omega) w)
 obtain ⟨tp,htp⟩:∃ x:Nat,x=lv M+j/64:=⟨_,rfl⟩
 obtain ⟨rt,hrt⟩:∃ x:Nat,x=lv M+tv M:=⟨_,rfl⟩
 obtain ⟨b1,hb1⟩:∃ x:Nat,x=j%64:=⟨_,rfl⟩
 obtain ⟨b2,hb2⟩:∃ x:Nat,x=j/64:=⟨_,rfl⟩
 rw [← htp,← hb1] at T1
 rw [← hrt,← hb2] at T2
 rw [← htp,← hrt,← hb1,← hb2]
 rw [← hrt] at hl
 have g1:tp<rt+1:=by omega
 have g2:tp≠rt:=by omega
 have g3:b1<64:=by omega
 have g4:b2<64:=by omega
 have g5:rt≤3000:=by omega
 have C1:=fun w=>Lib.hid (clear_any (gt xs tp) b1 (gt_lt hf tp) g3 w)
 have C2:=fun w=>Lib.hid (clear_any (gt xs rt) b2 (gt_lt hf rt) g4 w)
 have c1:=hB.cell (i:=tp) (by omega)
 have f1:=hB.frozen tp
 have hB1:=hB.set_ tp (clrb (gt xs tp) b1)
 have c2:=hB1.cell (i:=rt) (by simp;omega)
 rw [gt_set (by omega),if_neg g2] at c2
 have f2:=hB1.frozen rt
 have hB2:=Lib.hid (hB1.set_ rt (clrb (gt xs rt) b2))
 clear hB1 hB htp hrt hb1 hb2 h3 hf hl
 generalize clrb (gt xs tp) b1=v1 at *
 generalize clrb (gt xs rt) b2=v2 at *
 generalize gt xs tp=x1 at *
 generalize gt xs rt=x2 at *
 go_enter Tryz.func31,Tryz.ntmps31
 go_wp2_with (first
  | ((with_reducible refine ((T1 _).out).mono ?_);rintro e w' ⟨rfl,rfl⟩)
  | ((with_reducible refine ((T2 _).out).mono ?_);rintro e w' ⟨rfl,rfl⟩)
  | ((with_reducible refine ((C1 _).out).mono ?_);rintro e w' ⟨rfl,rfl⟩)
  | ((with_reducible refine ((C2 _).out).mono ?_);rintro e w' ⟨rfl,rfl⟩))
 go_end0
 exact ⟨rfl,hB2.out,((Below.refl g w).setCell (p:=⟨g,tp,none⟩) (Nat.le_refl _) _).setCell (p:=⟨g,rt,none⟩) (Nat.le_refl _) _⟩
end Go.Proofs.YtfhefofkhmkcnaaGreatDoor

/-
 Operations that sweep,as functions of numbers. No program in it.
-/
namespace Go.Proofs.YtfhefofkhmkcnaaGreatDoor
set_option maxRecDepth 100000
set_option maxRecDepth 100000
open Go.RowKit
set_option maxHeartbeats 8000000
set_option linter.unusedVariables false
/-- The operation in another Phase, with nothing left of its sweep. -/
def swLe (s:Sc) (ph:Int):Sc:=⟨s.kind,s.addr,s.err,s.aad,s.used,ph,s.shard,s.sought,s.leaf,s.bit,s.word,s.full,0,s.tries,s.item,s.stamp⟩
def swH (h:Hd):Hd:=⟨h.A0,h.n0,h.c0,h.A1,h.n1,h.c1,h.A2,h.n2,h.c2,none,0,0⟩
def swNo (l:Ls):Ls:=⟨l.rqs,l.ads,l.ers,[]⟩
theorem swLists {lo:Nat} {w:World} {h:Hd} {l:Ls} (H:Lists lo w h l):Lists lo w (swH h) (swNo l):=⟨H.i0,H.i1,H.i2,IS.none_ _ _ _⟩
/-- A bit was found: it is claimed. -/
def swFc (s:Sc) (x b:Nat):Sc:=⟨s.kind,s.addr,s.err,s.aad,s.used,3,s.shard,s.sought,s.at_,(b:Int),x,s.full,0,s.tries,s.item,s.stamp⟩
/-- The next leaf; the second collect; all was used. -/
def swMv (s:Sc):Sc:=⟨s.kind,s.addr,s.err,s.aad,s.used,s.phase,s.shard,s.sought,s.leaf,s.bit,s.word,s.full,s.at_+1,s.tries,s.item,s.stamp⟩
def swAg (s:Sc):Sc:=⟨s.kind,s.addr,s.err,s.aad,s.used,7,s.shard,s.sought,s.leaf,s.bit,s.word,s.full,0,s.tries,s.item,s.stamp⟩
def swEn (s:Sc):Sc:=⟨s.kind,s.addr,9,s.aad,s.used,0,s.shard,s.sought,s.leaf,s.bit,s.word,s.full,0,s.tries,s.item,s.stamp⟩
/-- A step of a Grant's first collect that read x; of its second one. -/
def swF (L:Nat) (x:Nat) (s:Sc):Sc:=if fb x 32=true then swFc s x (fi x 32) else if s.at_+1<(L:Int) then swMv s else swAg s
def swFL (x:Nat) (l:Ls):Ls:=if fb x 32=true then swNo l else ⟨l.rqs,l.ads,l.ers,l.ses ++ [(x:Int)]⟩
def swA (L:Nat) (x y:Nat) (s:Sc):Sc:=if x=y then (if s.at_+1<(L:Int) then swMv s else swEn s) else swLe s 6
def swAL (L:Nat) (x y:Nat) (s:Sc) (l:Ls):Ls:=if x=y then (if s.at_+1<(L:Int) then l else swNo l) else swNo l
def swAB (L:Nat) (x y:Nat) (s:Sc):Bool:=decide (x=y) && decide (¬ s.at_+1<(L:Int))
/-- What a step of sweeping answers: an operation with lists of its own, whether it took effect. -/
def RetSw (lo:Nat) (s:Sc) (l:Ls) (b:Bool) (w:World) (e:Ending) (w':World):Prop:=∃ h',e=.returned (.tuple #[.agg (opv h' s),.bool b])∧Lists lo w' h' l∧Below w.heap.size w w'
/-- What the first collect answers, while its caller's blocks stand. -/
def RetSwL (lo:Nat) (s:Sc) (l:Ls) (gR gO gH:Nat) (so:Array Value) (cf:Array Value) (w0 w:World) (e:Ending) (w':World):Prop :=
 ∃ h',e=.returned (.agg (opv h' s))∧Lists lo w' h' l∧Loc w0 w' [(gR,43,opv hd0 sc0),(gO,43,so),(gH,27,cf)] []
/-- What op.Own answers, Seen as a row of the call's own, apart from the other lists. -/
def RetOwnS (h:Hd) (s:Sc) (l:Ls) (w:World) (e:Ending) (w':World):Prop :=
 ∃ A0 c0 A1 c1 A2 c2 A3 c3,e=.returned (.agg (opv ⟨A0,h.n0,c0,A1,h.n1,c1,A2,h.n2,c2,A3,h.n3,c3⟩ s))∧IS .u32 w.heap.size w' A0 h.n0 c0 l.rqs∧IS .u32 w.heap.size w' A1 h.n1 c1 l.ads∧IS .i64 w.heap.size w' A2 h.n2 c2 l.ers∧Ri .u64 41 w' w.heap.size (.slice A3 h.n3 c3) h.n3 l.ses
  ∧ SepF (.slice A3 h.n3 c3) (iF .u32 w.heap.size A0 h.n0 c0 l.rqs)∧SepF (.slice A3 h.n3 c3) (iF .u32 w.heap.size A1 h.n1 c1 l.ads)∧SepF (.slice A3 h.n3 c3) (iF .i64 w.heap.size A2 h.n2 c2 l.ers)∧Below w.heap.size w w'
/-- The words that were seen, as cells. -/
theorem IS.seen {lo:Nat} {w:World} {A:Option Addr} {n c:Nat} {sn:List Nat} (h:IS .u64 lo w A n c (sn.map Int.ofNat)) (hf:∀ x∈sn,x<U64):US w A n c sn:=by
 have h1:∀ x∈sn.map Int.ofNat,(Lit.int .u64 x).wf=true:=fun x hx=>by
  obtain ⟨y,hy,rfl⟩:=List.mem_map.1 hx
  have h2:y<18446744073709551616:=hf y hy
  have h3:(0:Int)≤Int.ofNat y∧Int.ofNat y≤18446744073709551615:=⟨Int.natCast_nonneg y,by show (y:Int)≤_;omega⟩
  simpa [Lit.wf,IntKind.min,IntKind.max,IntKind.bits,IntKind.signed] using h3
 have h2:=h.toUS h1
 have h3:(sn.map Int.ofNat).map Int.toNat=sn:=by simp [Function.comp_def]
 rw [h3] at h2
 exact h2
end Go.Proofs.YtfhefofkhmkcnaaGreatDoor

/-
 The first cells,in new memory. Conditions: a block that may be.
-/
namespace Go.Proofs.YtfhefofkhmkcnaaGreatDoor
set_option maxRecDepth 100000
set_option maxRecDepth 100000
open Go.RowKit
set_option maxHeartbeats 8000000
theorem wcells_new {w:World} {lo a M:Nat} {p sh wo qu tr:Int} {A:Option Addr} {n c:Nat} {xs:List Int} (ha:a<4294967296) (hM:Much a p M) (h:IS .i64 lo w A n c xs) (hn:n≤65536) (hr:risB M 0 xs=true) :
  Calls Tryz.prog 10 #[.agg #[.int .u32 a,.int .i64 p,.slice A n c,.int .i64 sh,.int .i64 wo,.int .i64 qu,.int .i64 tr]] w (RetSM (lv M+tv M+1) (cl (nw M xs) (lv M) (tv M) (lv M)) w):=by
 have hm:=hM.most
 have h1:=lv_le hm
 have h2:=tv_le hm
 have h3:lv M≤64*tv M:=by unfold tv tq;omega
 have h4:M≤32*lv M∧32*lv M<M+32:=by unfold lv;omega
 have F:=fun w g j ys (B:Blk w g 41 ys) e1 e2 e3=>Lib.hid (wfree_any (M:=M) (j:=j) B e1 e2 hm e3)
 have T1:=fun w=>Lib.hid (cells_any M hm w)
 have T2:=fun w=>Lib.hid (leaves_any M hm w)
 have T3:∀ w,Hid (Calls Tryz.prog 28 #[.int .i64 64] w fun e w'=>e=.returned (.int .u64 (msk 64))∧w=w'):=fun w=>mask_any 64 (by decide) w
 have hv:=nw_lt M xs
 obtain ⟨N,hN⟩:∃ N,N=lv M+tv M+1:=⟨_,rfl⟩
 rw [← hN] at T1 F ⊢
 obtain ⟨i0,hi,hz0,hz1,hz2⟩:=info_parts u64_info
 have hb8:i0.bytes*N≤281474976710656:=by rw [hz2];omega
 have hN2:N≤3000:=by omega
 generalize lv M=L at *
 generalize tv M=T at *
 have HN:=Lib.hid hN
 clear hN
 have K:=below_alloc w (.cells #[.int .u32 a,.int .i64 p,.slice A n c,.int .i64 sh,.int .i64 wo,.int .i64 qu,.int .i64 tr] 27)
 have H:=Bk.new w #[.int .u32 a,.int .i64 p,.slice A n c,.int .i64 sh,.int .i64 wo,.int .i64 qu,.int .i64 tr] 27
 replace h:=h.below K
 go_enter Tryz.func10,Tryz.ntmps10
 go_wp2_with fail
 generalize w.alloc (.cells #[.int .u32 a,.int .i64 p,.slice A n c,.int .i64 sh,.int .i64 wo,.int .i64 qu,.int .i64 tr] 27)=w1 at H K h ⊢
 generalize w.heap.size=g at H ⊢
 refine (many_yes ha hM).mono ?_
 rintro e w2 ⟨rfl,K'⟩
 replace H:=H.below K'
 replace h:=h.below K'
 replace K:=Below.then_ K K'
 clear K'
 go_wp2_with (first
  | ((with_reducible refine ((T1 _).out).mono ?_);rintro e w' ⟨rfl,rfl⟩)
  | ((with_reducible refine ((T2 _).out).mono ?_);rintro e w' ⟨rfl,rfl⟩)
  | (at_make;refine wpList_make_full _ rfl (.tmp 11) (.tmp 11) _ rfl w2.heap.size 41 i0 _ 1 Tryz.underlying34 hi hz0 hz1 .i64 .i64 _ _ N rfl rfl rfl rfl hb8 (by unfold maxLen;omega) (Nat.le_refl _) ?_;intro w3 hown1 hg1;have B:=Blk.of_made hown1;clear hown1;have K1:Below w2.heap.size w2 w3:=(Below.refl _ _).grown hg1 (Nat.le_refl _) (by simp);clear hg1))
 clear hb8 hi hz0 hz1 hz2 T1
 rw [prc_start L] at B
 obtain ⟨g2,hg2⟩:∃ x,x=w2.heap.size:=⟨_,rfl⟩
 rw [← hg2] at B ⊢
 have hge:w2.heap.size≤g2:=by omega
 clear hg2
 have hg0:w.heap.size≤g2:=Nat.le_trans K.size hge
 go_loopw [5] (fun i wr=>∃ k:Nat,L≤k∧k≤N∧i=.int .i64 k∧Hid (Blk wr g2 41 (prc L k N))∧Below w2.heap.size w2 wr) (fun i _=>N - (intOf i).toNat)
 case atStart=>exact ⟨L,Nat.le_refl _,by have:=HN.out;omega,rfl,Lib.hid B,K1⟩
 case round =>
  clear B K1
  obtain ⟨k,hLk,hk,rfl,HB,Kr⟩:=hrel
  by_cases hlt:k<N
  ·have c1:=HB.out.cell (i:=k) (by rw [prc_len];omega)
   have f1:=HB.out.frozen k
   have HB2:Hid (Blk (wr.setCell ⟨g2,k,none⟩ (.int .u64 (msk 64:Nat))) g2 41 (prc L (k+1) N)):=by have:=HB.out.set_ k (msk 64);rw [prc_step hLk hlt] at this;exact this
   go_wp2_with ((with_reducible refine ((T3 _).out).mono ?_);rintro e w' ⟨rfl,rfl⟩)
   go_roundw
   case rel=>exact ⟨k+1,by omega,by omega,by go_num,HB2,Kr.setCell hge _⟩
   case measure=>simp [intOf];omega
  ·obtain rfl:k=N:=by omega
   have HB2:Hid (Blk wr g2 41 (cl (nw M xs) L T 0)):=by have:=HB.out;rw [HN.out,prc_end (nw M xs)] at this;exact this
   clear HB
   go_wp2_with ((with_reducible refine ((T2 _).out).mono ?_);rintro e w' ⟨rfl,rfl⟩)
   clear T3 T2 hlt hLk hk
   go_loopw [27] (fun i ws=>∃ j:Nat,j≤L∧i=.int .i64 j∧Hid (Blk ws g2 41 (cl (nw M xs) L T j))∧Below w2.heap.size w2 ws) (fun i _=>L - (intOf i).toNat)
   case atStart=>exact ⟨0,Nat.zero_le _,rfl,HB2,Kr⟩
   case round =>
    clear HB2 Kr
    obtain ⟨j,hj,rfl,HB,Kr⟩:=hrel
    replace H:=H.below Kr
    replace h:=h.below Kr
    have K2:=Below.then_ K Kr
    clear K
    have K:=K2
    clear K2
    by_cases hlt:j<L
    ·have hjM:32*j<M:=by omega
     have gH:=H.lt
     have H_0:=H.at_ (v:=.int .u32 a) 0 rfl
     have H_1:=H.at_ (v:=.int .i64 p) 1 rfl
     have H_2:=H.at_ (v:=.slice A n c) 2 rfl
     have H_3:=H.at_ (v:=.int .i64 sh) 3 rfl
     have H_4:=H.at_ (v:=.int .i64 wo) 4 rfl
     have H_5:=H.at_ (v:=.int .i64 qu) 5 rfl
     have H_6:=H.at_ (v:=.int .i64 tr) 6 rfl
     have H_z:=H.lt
     go_wp2_with fail
     refine (wnew_any ha hM h hn hr hjM).mono ?_
     rintro e w6 ⟨rfl,K6⟩
     clear H_0 H_1 H_2 H_3 H_4 H_5 H_6 H_z
     have K':=K6
     replace H:=H.below K'
     replace h:=h.below K'
     replace Kr:=Below.then_ Kr K'
     replace K:=Below.then_ K K'
     clear K'
     have B:=HB.out.below K6
     clear HB K6
     have B2:=B.set_ j (nw M xs j)
     have c1:=B.cell (i:=j) (by rw [cl_len];omega)
     have f1:=B.frozen j
     have c2:=B2.cell (i:=j) (by rw [List.length_set,cl_len];omega)
     rw [gt_set (by rw [cl_len];omega),if_pos rfl] at c2
     have V:=fun w=>Lib.hid (full_any (nw M xs j) (hv j) w)
     have hjT:j/64<T:=by omega
     have HE:L+T+1=k:=HN.out.symm
     have hjk:j<k:=by omega
     cases hfu:fl (nw M xs j) with
     | true =>
      rw [cl_full hlt hfu] at B2
      rw [hfu] at V
      have HB:=Lib.hid B2
      clear B B2 hfu F HE
      have Kx:=Kr.setCell (p:=⟨g2,j,none⟩) hge (.int .u64 (nw M xs j:Nat))
      generalize nw M xs j=x at *
      go_wp2_with ((with_reducible refine ((V _).out).mono ?_);rintro e w' ⟨rfl,rfl⟩)
      go_roundw
      case rel=>exact ⟨j+1,by omega,by go_num,HB,Kx⟩
      case measure=>simp [intOf];omega
     | false =>
      have FF:=F _ _ j _ B2 (by rw [List.length_set,cl_len];exact HE) (fit_set (cl_fit hv L T j) j (hv j)) hlt
      rw [gt_set (by rw [cl_len];omega),gt_set (by rw [cl_len];omega),if_neg (by omega),if_neg (by omega),gt_cl_top hjT,gt_cl_root,cl_free hlt hjT (by omega) hfu] at FF
      rw [hfu] at V
      clear B B2 hfu F HE
      have Kx:=Kr.setCell (p:=⟨g2,j,none⟩) hge (.int .u64 (nw M xs j:Nat))
      generalize nw M xs j=x at *
      go_wp2_with ((with_reducible refine ((V _).out).mono ?_);rintro e w' ⟨rfl,rfl⟩)
      refine ((FF).out).mono ?_
      rintro e w7 ⟨rfl,B7,K7⟩
      go_wp2
      go_roundw
      case rel=>exact ⟨j+1,by omega,by go_num,Lib.hid B7,Kx.trans (K7.mono hge)⟩
      case measure=>simp [intOf];omega
    ·obtain rfl:j=L:=by omega
     go_wp2
     go_ret
     exact ⟨_,_,rfl,HB.out.us (cl_fit hv _ _ _) (by rw [cl_len];exact HN.out.symm) (by omega),hg0,K⟩
end Go.Proofs.YtfhefofkhmkcnaaGreatDoor
