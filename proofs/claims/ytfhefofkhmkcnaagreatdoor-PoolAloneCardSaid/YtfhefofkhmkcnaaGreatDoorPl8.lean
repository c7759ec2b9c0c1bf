/-
  What the functions that these laws call answer, and what follows of it; conditions: those that each theorem names. In this file: HintClone.
-/
import Derived.Test.YtfhefofkhmkcnaaGreatDoorPl7
import Derived.Lib.SliceRun
/-
 What slices.Clone answers,of three kinds of lists,and hint.own: the same lists,in memory of their own. Conditions: at most 65536 items.
-/
namespace Go.Proofs.YtfhefofkhmkcnaaGreatDoor
set_option maxRecDepth 100000
set_option maxRecDepth 100000
open Go.RowKit
set_option maxHeartbeats 8000000
def RetI (k:IntKind) (n:Nat) (xs:List Int) (w:World) (e:Ending) (w':World):Prop:=∃ A c,e=.returned (.slice A n c)∧IS k w.heap.size w' A n c xs∧Below w.heap.size w w'
theorem clone32_info:(Tryz.prog.info? 22).map (fun i=>(i.zero,i.size,i.bytes))=some (some (.int .u32 0),1,4):=by kernel_rfl
theorem clone32_any {w:World} {lo:Nat} {A:Option Addr} {n c:Nat} {xs:List Int} (h:IS .u32 lo w A n c xs) (hn:n≤65536) :
  Calls Tryz.prog 72 #[.slice A n c] w (RetI .u32 n xs w):=by
 obtain ⟨i0,hi,hz0,hz1,hz2⟩:=info_parts clone32_info
 have q:∀ (w:World) (a:Option Addr) (n c n' c':Nat),(binOp .eql 28 (.slice a n c) (.slice none n' c')).run Tryz.prog w=.ok (.bool a.isNone) w:=fun w a n c n' c'=>Lib.run_eql_slice_nil w _ _ a n c n' c' Tryz.underlying28
 rcases A with _ | ad
 ·obtain rfl:=h.nil_ rfl
  obtain rfl:n=0:=by have:=h.cap;omega
  obtain rfl:xs=[]:=List.eq_nil_of_length_eq_zero h.len
  go_enter Tryz.func72,Tryz.ntmps72
  go_wp2
  go_ret
  exact ⟨_,_,rfl,IS.none_ _ _ _,Below.refl _ _⟩
 ·have hr:=fun ty=>run_clone (P:=Tryz.prog) Tryz.underlying28 hi hz0 hz1 (by omega) h hn ty
  clear hz0 hz1 hz2
  go_enter Tryz.func72,Tryz.ntmps72
  obtain ⟨A',c',w',hrun,hI,K⟩:=hr 28
  go_wp2_with (at_builtin;refine wpList_append_run rfl (.tmp 5) (.tmp 6) _ rfl _ _ _ _ rfl rfl hrun ?_)
  go_ret
  exact ⟨_,_,rfl,hI,K⟩
theorem cloneE_info:(Tryz.prog.info? 37).map (fun i=>(i.zero,i.size,i.bytes))=some (some (.int .i64 0),1,8):=by kernel_rfl
theorem cloneE_any {w:World} {lo:Nat} {A:Option Addr} {n c:Nat} {xs:List Int} (h:IS .i64 lo w A n c xs) (hn:n≤65536) :
  Calls Tryz.prog 73 #[.slice A n c] w (RetI .i64 n xs w):=by
 obtain ⟨i0,hi,hz0,hz1,hz2⟩:=info_parts cloneE_info
 have q:∀ (w:World) (a:Option Addr) (n c n' c':Nat),(binOp .eql 38 (.slice a n c) (.slice none n' c')).run Tryz.prog w=.ok (.bool a.isNone) w:=fun w a n c n' c'=>Lib.run_eql_slice_nil w _ _ a n c n' c' Tryz.underlying38
 rcases A with _ | ad
 ·obtain rfl:=h.nil_ rfl
  obtain rfl:n=0:=by have:=h.cap;omega
  obtain rfl:xs=[]:=List.eq_nil_of_length_eq_zero h.len
  go_enter Tryz.func73,Tryz.ntmps73
  go_wp2
  go_ret
  exact ⟨_,_,rfl,IS.none_ _ _ _,Below.refl _ _⟩
 ·have hr:=fun ty=>run_clone (P:=Tryz.prog) Tryz.underlying38 hi hz0 hz1 (by omega) h hn ty
  clear hz0 hz1 hz2
  go_enter Tryz.func73,Tryz.ntmps73
  obtain ⟨A',c',w',hrun,hI,K⟩:=hr 38
  go_wp2_with (at_builtin;refine wpList_append_run rfl (.tmp 5) (.tmp 6) _ rfl _ _ _ _ rfl rfl hrun ?_)
  go_ret
  exact ⟨_,_,rfl,hI,K⟩
theorem clone64_info:(Tryz.prog.info? 41).map (fun i=>(i.zero,i.size,i.bytes))=some (some (.int .u64 0),1,8):=by kernel_rfl
theorem clone64_any {w:World} {lo:Nat} {A:Option Addr} {n c:Nat} {xs:List Int} (h:IS .u64 lo w A n c xs) (hn:n≤65536) :
  Calls Tryz.prog 74 #[.slice A n c] w (RetI .u64 n xs w):=by
 obtain ⟨i0,hi,hz0,hz1,hz2⟩:=info_parts clone64_info
 have q:∀ (w:World) (a:Option Addr) (n c n' c':Nat),(binOp .eql 34 (.slice a n c) (.slice none n' c')).run Tryz.prog w=.ok (.bool a.isNone) w:=fun w a n c n' c'=>Lib.run_eql_slice_nil w _ _ a n c n' c' Tryz.underlying34
 rcases A with _ | ad
 ·obtain rfl:=h.nil_ rfl
  obtain rfl:n=0:=by have:=h.cap;omega
  obtain rfl:xs=[]:=List.eq_nil_of_length_eq_zero h.len
  go_enter Tryz.func74,Tryz.ntmps74
  go_wp2
  go_ret
  exact ⟨_,_,rfl,IS.none_ _ _ _,Below.refl _ _⟩
 ·have hr:=fun ty=>run_clone (P:=Tryz.prog) Tryz.underlying34 hi hz0 hz1 (by omega) h hn ty
  clear hz0 hz1 hz2
  go_enter Tryz.func74,Tryz.ntmps74
  obtain ⟨A',c',w',hrun,hI,K⟩:=hr 34
  go_wp2_with (at_builtin;refine wpList_append_run rfl (.tmp 5) (.tmp 6) _ rfl _ _ _ _ rfl rfl hrun ?_)
  go_ret
  exact ⟨_,_,rfl,hI,K⟩
end Go.Proofs.YtfhefofkhmkcnaaGreatDoor
