/-
  What the functions that these laws call answer, and what follows of it; conditions: those that each theorem names. In this file: HintLib.
-/
import Derived.Test.YtfhefofkhmkcnaaGreatDoorPl6
import Derived.Laws.Tables
/-
 Operations (api.Op) as numbers and lists;blocks that hold one,read and written whole or by the field. No condition on the program.
-/
namespace Go.Proofs.YtfhefofkhmkcnaaGreatDoor
set_option maxRecDepth 100000
set_option maxRecDepth 100000
open Go.RowKit
set_option maxHeartbeats 8000000
/-- The numbers of an operation. -/
structure Sc where
 kind:Int
 addr:Int
 err:Int
 aad:Int
 used:Bool
 phase:Int
 shard:Int
 sought:Int
 leaf:Int
 bit:Int
 word:Nat
 full:Bool
 at_:Int
 tries:Int
 item:Int
 stamp:Int
/-- The lists of an operation, as they lie. -/
structure Hd where
 A0:Option Addr
 n0:Nat
 c0:Nat
 A1:Option Addr
 n1:Nat
 c1:Nat
 A2:Option Addr
 n2:Nat
 c2:Nat
 A3:Option Addr
 n3:Nat
 c3:Nat
def opv (h:Hd) (s:Sc):Array Value:=#[.int .i64 s.kind,.int .u32 s.addr,.slice h.A0 h.n0 h.c0,.int .i64 s.err,.int .u32 s.aad,.bool s.used,.slice h.A1 h.n1 h.c1,.slice h.A2 h.n2 h.c2,.int .i64 s.phase,.int .i64 s.shard,.int .i64 s.sought,.int .i64 s.leaf,.int .i64 s.bit,.int .u64 (s.word:Int),.bool s.full,.slice h.A3 h.n3 h.c3,.int .i64 s.at_,.int .i64 s.tries,.int .i64 s.item,.int .i64 s.stamp]
def hd0:Hd:=⟨none,0,0,none,0,0,none,0,0,none,0,0⟩
def sc0:Sc:=⟨0,0,0,0,false,0,0,0,0,0,0,false,0,0,0,0⟩
theorem opv_size (h:Hd) (s:Sc):(opv h s).size=20:=rfl
theorem opv_one (h:Hd) (s:Sc):(opv h s).all (·.oneCell')=true:=by
 unfold opv;simp [Value.oneCell']
theorem op_info:(Tryz.prog.info? 43).map (·.size)=some 20:=by kernel_rfl
theorem op_sz {h:Hd} {s:Sc}:(Tryz.prog.info? 43).map (·.size)=some (opv h s).size:=by rw [opv_size];exact op_info
theorem cf_info:(Tryz.prog.info? 27).map (·.size)=some 7:=by kernel_rfl
theorem cf_sz {c0 c1 c2 c3 c4 c5 c6:Value}:(Tryz.prog.info? 27).map (·.size)=some (#[c0,c1,c2,c3,c4,c5,c6]:Array Value).size:=cf_info
section
variable {w w':World} {g:Nat} {t:TypeId} {l:Array Value}
theorem Bk.set_ (h:Bk w g t l) (i:Nat) (v:Value):Bk (w.setCell ⟨g,i,none⟩ v) g t (l.setIfInBounds i v):=by
 unfold Bk at h ⊢
 simp [World.setCell,Array.getElem?_modify,h]
theorem Bk.row (h:Bk w g t l) (l':Array Value):Bk (w.setRow g l') g t l':=setRow_heap w g l l' t (0,0) h
theorem Bk.row_far (h:Bk w g t l) {k:Nat} (hk:g≠k) (l':Array Value):Bk (w.setRow k l') g t l:=(setRow_other w k g l' hk).trans h
end
section
variable {k:IntKind} {lo:Nat} {w w':World} {A:Option Addr} {n c:Nat} {xs:List Int}
theorem IS.set_row (h:IS k lo w A n c xs) {g:Nat} (hg:g<lo) (l:Array Value):IS k lo (w.setRow g l) A n c xs :=
 ⟨h.len,h.cap,h.most,h.nil_,fun hn=>by
  obtain ⟨b,o,e,hl,hlt,hc⟩:=h.cells hn
  exact ⟨b,o,e,hl,by simpa using hlt,fun j hj=>(cell_setRow_other w g l ⟨b,o+j,none⟩ (by simp;omega)).trans (hc j hj)⟩⟩
end
/-- What an operation's own lists hold. -/
structure Ls where
 rqs:List Int
 ads:List Int
 ers:List Int
 ses:List Int
structure Lists (lo:Nat) (w:World) (h:Hd) (l:Ls):Prop where
 i0:IS .u32 lo w h.A0 h.n0 h.c0 l.rqs
 i1:IS .u32 lo w h.A1 h.n1 h.c1 l.ads
 i2:IS .i64 lo w h.A2 h.n2 h.c2 l.ers
 i3:IS .u64 lo w h.A3 h.n3 h.c3 l.ses
section
variable {lo:Nat} {w w':World} {h:Hd} {l:Ls}
theorem Lists.below (H:Lists lo w h l) (K:Below w.heap.size w w'):Lists lo w' h l:=⟨H.i0.below K,H.i1.below K,H.i2.below K,H.i3.below K⟩
theorem Lists.lower (H:Lists lo w h l) {lo':Nat} (hl:lo'≤lo):Lists lo' w h l:=⟨H.i0.lower hl,H.i1.lower hl,H.i2.lower hl,H.i3.lower hl⟩
theorem Lists.set_low (H:Lists lo w h l) {p:Addr} (hp:p.block<lo) (u:Value):Lists lo (w.setCell p u) h l:=⟨H.i0.set_low hp u,H.i1.set_low hp u,H.i2.set_low hp u,H.i3.set_low hp u⟩
theorem Lists.set_row (H:Lists lo w h l) {g:Nat} (hg:g<lo) (u:Array Value):Lists lo (w.setRow g u) h l:=⟨H.i0.set_row hg u,H.i1.set_row hg u,H.i2.set_row hg u,H.i3.set_row hg u⟩
theorem Lists.hd0 (w:World):Lists lo w hd0 ⟨[],[],[],[]⟩:=⟨IS.none_ _ _ _,IS.none_ _ _ _,IS.none_ _ _ _,IS.none_ _ _ _⟩
end
theorem yieldsIf_load_row {P:Program} {ops:Array Oper} {S:World→Prop} {op:Oper} {a:Act} (hw:Region.wanted op (yielded ops a.tmps)=true) (ty:TypeId) (x:Operand) (ho:op.op=.load ty x)
  (g:Nat) (hx:a.eval x=.pointer (some ⟨g,0,none⟩)) (t:TypeId) (cs:Array Value) (fr:Nat×Nat) (d:TypeDesc) (hS:∀ w,S w→w.heap[g]? = some (.cells cs t fr))
  (hu:P.underlying ty=some d) (hd:(match d with | .struct _ | .array _ _=>true | _=>false)=true) (hi:(P.info? ty).map (·.size)=some cs.size):YieldsIf P ops S op (.agg cs) a :=
 .inl ⟨hw,fun w hw'=>by
  unfold execOp
  simp only [ho,hx,Instr.loadAt,Instr.sureAddr,Sem.run_bind,Sem.run_pure,Result.andThen_ok,run_loadVar_row w g t ty cs fr d (hS w hw') hu hd hi]⟩
/-- A clone's append: onto a row of nothing. -/
theorem run_clone {P:Program} {k:IntKind} {t e:TypeId} {i:TypeInfo} {w:World} {lo:Nat} {ad:Addr} {n c:Nat} {xs:List Int} (ht:P.underlying t=some (.slice e)) (hi:P.info? e=some i) (hz:i.zero=some (.int k 0)) (hsize:i.size=1) (hby:i.bytes≤8)
  (h:IS k lo w (some ad) n c xs) (hn:n≤65536) (ty:TypeId) :
  ∃ A' c' w',(Builtin.append_ #[t,t] ty #[.slice (some ⟨w.heap.size,0,none⟩) 0 0,.slice (some ad) n c]).run P (w.alloc (.cells #[] e))=.ok (.slice A' n c') w'∧IS k w.heap.size w' A' n c' xs∧Below w.heap.size w w':=by
 have hl:=h.len
 have K:=below_alloc w (.cells #[] e)
 have h':=h.below K
 have hcells:∀ j u,(xs.map (iv k))[j]? = some u→(w.alloc (.cells #[] e)).cell? (ad.add j)=some u:=by
  intro j u hu
  rcases Nat.eq_zero_or_pos n with h0 | h0
  ·subst h0
   obtain rfl:xs=[]:=List.eq_nil_of_length_eq_zero hl
   simp at hu
  ·obtain ⟨ad',e',hc⟩:=h'.src h0
   injection e' with e'
   subst e'
   exact hc j u hu
 have hown:=World.ownsRow_lit (base:=w.heap.size) (size:=1) (e:=e) w #[] 0 (Nat.le_refl _) (by unfold maxLen;omega) rfl
 have hb:n*i.bytes≤140737488355328:=Nat.le_trans (Nat.mul_le_mul hn hby) (by omega)
 obtain ⟨v',w',hrun,h2,h3,_⟩:=run_append_own_at (P:=P) (w.alloc (.cells #[] e)) w.heap.size t ty e i _ 1 i.bytes ht hi hz hsize rfl rfl (by omega) _ 0 [] hown ad n c (xs.map (iv k)) (by simp [hl]) hcells (iv_one k xs) (by unfold maxLen;omega) (by simpa using hb) (by simp)
 rw [List.nil_append,Nat.zero_add] at h2
 obtain ⟨A',c',rfl,hI⟩:=IS.of_own h2
 exact ⟨A',c',w',hrun,hI,K.grown h3 (by simp) (by intro j hj;cases hj;exact Nat.le_refl _)⟩
end Go.Proofs.YtfhefofkhmkcnaaGreatDoor
