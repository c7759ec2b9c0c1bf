/-
 The walk of the law PoolTold: for every configuration,home,request and doings of others it answers true.
-/
import Derived.Test.YtfhefofkhmkcnaaGreatDoorPl18

import Derived.Deep.DeepCutAuto
namespace Go.Proofs.YtfhefofkhmkcnaaGreatDoor.poolTold
set_option maxHeartbeats 8000000
set_option maxRecDepth 100000
open Go.RowKit
set_option linter.unusedVariables false
section
variable {h:Hd} {s:Sc} {l:Ls} {w:World} {lo lo2 lo3 lo4 a X HH k q k2 q2 n0 c0:Nat} {p sh wo qu tr kd:Int} {A A0 E E2:Option Addr} {n c:Nat} {zs xs es es2:List Int}
theorem far2 (PS:PoolSays) (hW:Laid w) (hL:Lists lo w h l) (hHH:HH<256) (q2:300<h.n2) :
  Calls Tryz.prog 6 #[.agg (opv h s),.int .u8 (HH:Int)] w (RetBo true w):=by
 have f2:decide ((300:Int)<(h.n2:Int))=true:=by simp;omega
 go_enter Tryz.func6,Tryz.ntmps6
 go_upto_region 1 with (fail)
 have L:=Loc.start w
 replace L:=(L).alloc (opv h s) 43
 try simp only [World.size_alloc] at L
 try dsimp only [nput] at L
 generalize (w).alloc (.cells (opv h s) 43)=w1 at L ⊢
 generalize w.heap.size=gO at L ⊢
 go_wp2_with fail
 refine ((PS.awk (hW.below L.K))).mono ?_
 rintro e w2 ⟨rfl,K'⟩
 replace L:=L.over K'
 have O_7:=L.at_ 0 7 rfl (v:=.slice h.A2 h.n2 h.c2) rfl
 have O_z:=L.lt 0 rfl
 go_wp2_with fail
 refine ((PS.awk (hW.below L.K))).mono ?_
 rintro e w3 ⟨rfl,K'⟩
 clear O_7 O_z
 replace L:=L.over K'
 go_wp2
 go_ret
 exact ⟨rfl,L.K⟩
theorem far1 (PS:PoolSays) (hW:Laid w) (hL:Lists lo w h l) (hHH:HH<256) (q2:h.n2≤300) (q1:300<h.n1) :
  Calls Tryz.prog 6 #[.agg (opv h s),.int .u8 (HH:Int)] w (RetBo true w):=by
 have f2:decide ((300:Int)<(h.n2:Int))=false:=by simp;omega
 have f1:decide ((300:Int)<(h.n1:Int))=true:=by simp;omega
 go_enter Tryz.func6,Tryz.ntmps6
 go_upto_region 1 with (fail)
 have L:=Loc.start w
 replace L:=(L).alloc (opv h s) 43
 try simp only [World.size_alloc] at L
 try dsimp only [nput] at L
 generalize (w).alloc (.cells (opv h s) 43)=w1 at L ⊢
 generalize w.heap.size=gO at L ⊢
 go_wp2_with fail
 refine ((PS.awk (hW.below L.K))).mono ?_
 rintro e w2 ⟨rfl,K'⟩
 replace L:=L.over K'
 have O_7:=L.at_ 0 7 rfl (v:=.slice h.A2 h.n2 h.c2) rfl
 have O_6:=L.at_ 0 6 rfl (v:=.slice h.A1 h.n1 h.c1) rfl
 have O_z:=L.lt 0 rfl
 go_wp2_with fail
 refine ((PS.awk (hW.below L.K))).mono ?_
 rintro e w3 ⟨rfl,K'⟩
 clear O_7 O_6 O_z
 replace L:=L.over K'
 go_wp2
 go_ret
 exact ⟨rfl,L.K⟩
theorem far3 (PS:PoolSays) (hW:Laid w) (hL:Lists lo w h l) (hHH:HH<256) (q2:h.n2≤300) (q1:h.n1≤300) (q3:300<h.n3) :
  Calls Tryz.prog 6 #[.agg (opv h s),.int .u8 (HH:Int)] w (RetBo true w):=by
 have f2:decide ((300:Int)<(h.n2:Int))=false:=by simp;omega
 have f1:decide ((300:Int)<(h.n1:Int))=false:=by simp;omega
 have f3:decide ((300:Int)<(h.n3:Int))=true:=by simp;omega
 go_enter Tryz.func6,Tryz.ntmps6
 go_upto_region 1 with (fail)
 have L:=Loc.start w
 replace L:=(L).alloc (opv h s) 43
 try simp only [World.size_alloc] at L
 try dsimp only [nput] at L
 generalize (w).alloc (.cells (opv h s) 43)=w1 at L ⊢
 generalize w.heap.size=gO at L ⊢
 go_wp2_with fail
 refine ((PS.awk (hW.below L.K))).mono ?_
 rintro e w2 ⟨rfl,K'⟩
 replace L:=L.over K'
 have O_7:=L.at_ 0 7 rfl (v:=.slice h.A2 h.n2 h.c2) rfl
 have O_6:=L.at_ 0 6 rfl (v:=.slice h.A1 h.n1 h.c1) rfl
 have O_15:=L.at_ 0 15 rfl (v:=.slice h.A3 h.n3 h.c3) rfl
 have O_z:=L.lt 0 rfl
 go_wp2_with fail
 refine ((PS.awk (hW.below L.K))).mono ?_
 rintro e w3 ⟨rfl,K'⟩
 clear O_7 O_6 O_15 O_z
 replace L:=L.over K'
 go_wp2
 go_ret
 exact ⟨rfl,L.K⟩
theorem far0 (PS:PoolSays) (hW:Laid w) (hL:Lists lo w h l) (hHH:HH<256) (q2:h.n2≤300) (q1:h.n1≤300) (q3:h.n3≤300) (q0:300<h.n0) :
  Calls Tryz.prog 6 #[.agg (opv h s),.int .u8 (HH:Int)] w (RetBo true w):=by
 have f2:decide ((300:Int)<(h.n2:Int))=false:=by simp;omega
 have f1:decide ((300:Int)<(h.n1:Int))=false:=by simp;omega
 have f3:decide ((300:Int)<(h.n3:Int))=false:=by simp;omega
 have f0:decide ((300:Int)<(h.n0:Int))=true:=by simp;omega
 go_enter Tryz.func6,Tryz.ntmps6
 go_upto_region 1 with (fail)
 have L:=Loc.start w
 replace L:=(L).alloc (opv h s) 43
 try simp only [World.size_alloc] at L
 try dsimp only [nput] at L
 generalize (w).alloc (.cells (opv h s) 43)=w1 at L ⊢
 generalize w.heap.size=gO at L ⊢
 go_wp2_with fail
 refine ((PS.awk (hW.below L.K))).mono ?_
 rintro e w2 ⟨rfl,K'⟩
 replace L:=L.over K'
 have O_7:=L.at_ 0 7 rfl (v:=.slice h.A2 h.n2 h.c2) rfl
 have O_6:=L.at_ 0 6 rfl (v:=.slice h.A1 h.n1 h.c1) rfl
 have O_15:=L.at_ 0 15 rfl (v:=.slice h.A3 h.n3 h.c3) rfl
 have O_2:=L.at_ 0 2 rfl (v:=.slice h.A0 h.n0 h.c0) rfl
 have O_z:=L.lt 0 rfl
 go_wp2_with fail
 refine ((PS.awk (hW.below L.K))).mono ?_
 rintro e w3 ⟨rfl,K'⟩
 clear O_7 O_6 O_15 O_2 O_z
 replace L:=L.over K'
 go_wp2
 go_ret
 exact ⟨rfl,L.K⟩
theorem near (PS:PoolSays) (hW:Laid w) (hL:Lists lo w h l) (hHH:HH<256) (q2:h.n2≤300) (q1:h.n1≤300) (q3:h.n3≤300) (q0:h.n0≤300) :
  Calls Tryz.prog 6 #[.agg (opv h s),.int .u8 (HH:Int)] w (RetBo true w):=by
 have f2:decide ((300:Int)<(h.n2:Int))=false:=by simp;omega
 have f1:decide ((300:Int)<(h.n1:Int))=false:=by simp;omega
 have f3:decide ((300:Int)<(h.n3:Int))=false:=by simp;omega
 have f0:decide ((300:Int)<(h.n0:Int))=false:=by simp;omega
 obtain ⟨v,hv⟩:∃ v:Nat,v=HH%13:=⟨_,rfl⟩
 have ev0:(HH:Int).tmod 13=(v:Int):=by rw [Int.tmod_eq_emod_of_nonneg (by omega)];omega
 have ev1:IntKind.i64.wrap (v:Int)=(v:Int):=IntWalk.i64_in _ (by omega)
 replace hv:=Lib.hid hv
 go_enter Tryz.func6,Tryz.ntmps6
 go_upto_region 1 with (fail)
 have L:=Loc.start w
 replace L:=(L).alloc (opv h s) 43
 try simp only [World.size_alloc] at L
 try dsimp only [nput] at L
 generalize (w).alloc (.cells (opv h s) 43)=w1 at L ⊢
 generalize w.heap.size=gO at L ⊢
 go_wp2_with fail
 refine ((PS.awk (hW.below L.K))).mono ?_
 rintro e w2 ⟨rfl,K'⟩
 replace L:=L.over K'
 have O_7:=L.at_ 0 7 rfl (v:=.slice h.A2 h.n2 h.c2) rfl
 have O_6:=L.at_ 0 6 rfl (v:=.slice h.A1 h.n1 h.c1) rfl
 have O_15:=L.at_ 0 15 rfl (v:=.slice h.A3 h.n3 h.c3) rfl
 have O_2:=L.at_ 0 2 rfl (v:=.slice h.A0 h.n0 h.c0) rfl
 have O_z:=L.lt 0 rfl
 go_upto_region 4 with (first | (refine lO 2 (L.bk_ 0 rfl) ?_) | (refine wpList_store_row rfl 43 (.tmp 5) (.tmp 38) rfl _ _ rfl (show _=Value.agg (opv h s) from rfl) _ _ (Bk.new _ _ _) op_sz rfl (opv_one _ _) ?_))
 clear O_7 O_6 O_15 O_2 O_z
 try rw [World.setRow_alloc_new]
 replace L:=(L).alloc (opv h s) 43
 try simp only [World.size_alloc] at L
 try dsimp only [nput] at L
 generalize (w2).alloc (.cells (opv h s) 43)=w3 at L ⊢
 generalize w2.heap.size=gP at L ⊢
 have P_0:=L.at_ 0 0 rfl (v:=.int .i64 s.kind) rfl
 have P_z:=L.lt 0 rfl
 have P_f0:=L.fz 0 0 rfl
 go_upto_region 5 with fail
 clear P_0 P_z P_f0
 generalize hal:World.setCell _ _ _=w4
 replace L:=L.sc0 hal (l9:=(opv ⟨h.A0,h.n0,h.c0,h.A1,h.n1,h.c1,h.A2,h.n2,h.c2,h.A3,h.n3,h.c3⟩ ⟨4,s.addr,s.err,s.aad,s.used,s.phase,s.shard,s.sought,s.leaf,s.bit,s.word,s.full,s.at_,s.tries,s.item,s.stamp⟩)) rfl
 clear hal
 have hsz:=L.K.size
 have hLb:=L.lts
 obtain ⟨i0,hi,hz0,hz1,hz2⟩:=info_parts cloneE_info
 have hown:Ri .i64 37 (w4.alloc (.cells #[] 37)) w4.heap.size (.slice (some ⟨w4.heap.size,0,none⟩) 0 0) 0 []:=World.ownsRow_lit w4 #[] 0 (Nat.le_refl _) (by unfold maxLen;omega) rfl
 have Ka:=below_alloc w4 (.cells #[] 37)
 obtain ⟨B1,b1,wq,hap,R1,K1⟩:=run_app (P:=Tryz.prog) Tryz.underlying38 hi hz0 hz1 (by omega) hown ((hL.i2.below L.K).below Ka) (by omega) Ka.size 38
 rw [Nat.zero_add] at hap R1
 rw [List.nil_append] at R1
 obtain ⟨B2,b2,wz,hap2,R2,K2⟩:=run_app1 (P:=Tryz.prog) (x:=(v:Int)) Tryz.underlying38 hi hz0 hz1 (by omega) R1 (by omega) (Nat.le_trans Ka.size K1.size) 38
 have KK:=(Ka.trans K1).trans K2
 have LA:=(L.over KK).is_new hLb R2.is
 have O_7:=(L.over Ka).at_ 1 7 rfl (v:=.slice h.A2 h.n2 h.c2) rfl
 have O_z:=(L.over Ka).lt 1 rfl
 have P_7:=LA.at_ 0 7 rfl (v:=.slice h.A2 h.n2 h.c2) rfl
 have P_f7:=LA.fz 0 7 rfl
 have P_z:=LA.lt 0 rfl
 have HA:=Lib.hid hap
 have HB:=Lib.hid hap2
 have hI2:=R2.is
 clear hap hap2 hi hz0 hz1 hz2 hown R1 R2 K1 K2 KK L
 go_upto_region 6 with (first | (at_builtin;refine wpList_append_run rfl (.tmp 41) (.tmp 44) 38 rfl _ _ _ _ rfl rfl HA.out ?_) | (at_builtin;refine wpList_append_run rfl (.tmp 45) (.tmp 49) 38 rfl _ _ _ _ rfl rfl HB.out ?_))
 clear O_7 O_z P_7 P_f7 P_z HA HB
 have L:=(LA.set 0 7 rfl (.slice B2 (h.n2+1) b2)).is 0 (opv ⟨h.A0,h.n0,h.c0,h.A1,h.n1,h.c1,B2,(h.n2+1),b2,h.A3,h.n3,h.c3⟩ ⟨4,s.addr,s.err,s.aad,s.used,s.phase,s.shard,s.sought,s.leaf,s.bit,s.word,s.full,s.at_,s.tries,s.item,s.stamp⟩) rfl
 try dsimp only [nput] at L
 generalize wz.setCell ⟨gP,7,none⟩ (.slice B2 (h.n2+1) b2)=wy at L ⊢
 clear LA Ka hI2 hLb hsz
 go_upto_region 7 with (first | (refine lO 2 (L.bk_ 1 rfl) ?_) | (refine wpList_store_row rfl 43 (.tmp 6) (.tmp 53) rfl _ _ rfl (show _=Value.agg (opv h s) from rfl) _ _ (Bk.new _ _ _) op_sz rfl (opv_one _ _) ?_))
 try rw [World.setRow_alloc_new]
 replace L:=(L).alloc (opv h s) 43
 try simp only [World.size_alloc] at L
 try dsimp only [nput] at L
 generalize (wy).alloc (.cells (opv h s) 43)=w5 at L ⊢
 generalize wy.heap.size=gS at L ⊢
 have S_0:=L.at_ 0 0 rfl (v:=.int .i64 s.kind) rfl
 have S_z:=L.lt 0 rfl
 have S_f0:=L.fz 0 0 rfl
 go_upto_region 8 with fail
 clear S_0 S_z S_f0
 generalize hal:World.setCell _ _ _=w6
 replace L:=L.sc0 hal (l9:=(opv ⟨h.A0,h.n0,h.c0,h.A1,h.n1,h.c1,h.A2,h.n2,h.c2,h.A3,h.n3,h.c3⟩ ⟨3,s.addr,s.err,s.aad,s.used,s.phase,s.shard,s.sought,s.leaf,s.bit,s.word,s.full,s.at_,s.tries,s.item,s.stamp⟩)) rfl
 clear hal
 go_upto_region 9 with (first | (refine lO 5 (L.bk_ 1 rfl) ?_) | (refine wpList_store_row rfl 43 (.tmp 7) (.tmp 56) rfl _ _ rfl (show _=Value.agg (opv ⟨h.A0,h.n0,h.c0,h.A1,h.n1,h.c1,B2,(h.n2+1),b2,h.A3,h.n3,h.c3⟩ ⟨4,s.addr,s.err,s.aad,s.used,s.phase,s.shard,s.sought,s.leaf,s.bit,s.word,s.full,s.at_,s.tries,s.item,s.stamp⟩) from rfl) _ _ (Bk.new _ _ _) op_sz rfl (opv_one _ _) ?_))
 try rw [World.setRow_alloc_new]
 replace L:=(L).alloc (opv ⟨h.A0,h.n0,h.c0,h.A1,h.n1,h.c1,B2,(h.n2+1),b2,h.A3,h.n3,h.c3⟩ ⟨4,s.addr,s.err,s.aad,s.used,s.phase,s.shard,s.sought,s.leaf,s.bit,s.word,s.full,s.at_,s.tries,s.item,s.stamp⟩) 43
 try simp only [World.size_alloc] at L
 try dsimp only [nput] at L
 generalize (w6).alloc (.cells (opv ⟨h.A0,h.n0,h.c0,h.A1,h.n1,h.c1,B2,(h.n2+1),b2,h.A3,h.n3,h.c3⟩ ⟨4,s.addr,s.err,s.aad,s.used,s.phase,s.shard,s.sought,s.leaf,s.bit,s.word,s.full,s.at_,s.tries,s.item,s.stamp⟩) 43)=w7 at L ⊢
 generalize w6.heap.size=gT at L ⊢
 have T_7:=L.at_ 0 7 rfl (v:=.slice B2 (h.n2+1) b2) rfl
 have T_z:=L.lt 0 rfl
 have T_f7:=L.fz 0 7 rfl
 go_upto_region 10 with fail
 clear T_7 T_z T_f7
 generalize hal:World.setCell _ _ _=w8
 replace L:=L.sc0 hal (l9:=(opv ⟨h.A0,h.n0,h.c0,h.A1,h.n1,h.c1,none,0,0,h.A3,h.n3,h.c3⟩ ⟨4,s.addr,s.err,s.aad,s.used,s.phase,s.shard,s.sought,s.leaf,s.bit,s.word,s.full,s.at_,s.tries,s.item,s.stamp⟩)) rfl
 clear hal
 have TA:=fun w x P p1 p2 Q q1 q2 P2 p3 p4 Q2 q3 q4 lo2 lo3 lo4 lo5 (h1:IS .u32 lo2 w P p1 p2 x.2.2.2.1) (h2:IS .i64 lo3 w Q q1 q2 x.2.2.2.2) (h3:IS .u32 lo4 w P2 p3 p4 x.2.2.2.1) (h4:IS .i64 lo5 w Q2 q3 q4 x.2.2.2.2) (b1:p1≤65536) (b2:q1≤65536) (b3:p3≤65536) (b4:q3≤65536)=>Lib.hid (answers_is (w:=w) (x:=x) (y:=x) h1 h2 h3 h4 b1 b2 b3 b4 (decide_eq_true rfl))
 have hz0:=Lib.hid hL.emp_
 refine rg L fun v9 hHeld=>?_
 replace L:=hHeld
 refine tR 0 59 5 2 rfl rfl Tryz.underlying43 op_sz hHeld ?_
 refine tg 2 61 (.int .u8 (HH:Int)) rfl hHeld ?_
 refine tg 3 62 (.int .u8 (v:Int)) rfl hHeld ?_
 refine tg 4 63 (.int .i64 (v:Int)) rfl hHeld ?_
 refine tz 5 64 rfl hHeld ?_
 refine rd 1 60 rfl fun K0 hK=>?_
 have hL9:=(hL.below L.K).lower_ (Nat.zero_le _)
 have hLp:Lists 0 v9 ⟨h.A0,h.n0,h.c0,h.A1,h.n1,h.c1,B2,h.n2+1,b2,h.A3,h.n3,h.c3⟩ ⟨l.rqs,l.ads,l.ers ++ [(v:Int)],l.ses⟩:=⟨hL9.i0,hL9.i1,(L.is_ 0 rfl).lower (Nat.zero_le _),hL9.i3⟩
 have RT:=PS.tol (s:=⟨4,s.addr,s.err,s.aad,s.used,s.phase,s.shard,s.sought,s.leaf,s.bit,s.word,s.full,s.at_,s.tries,s.item,s.stamp⟩) hLp (by show h.n0≤60000;omega) (by show h.n1≤65536;omega) (by show h.n2+1≤60000;omega) (by show h.n3≤65000;omega)
 rw [show tld ⟨4,s.addr,s.err,s.aad,s.used,s.phase,s.shard,s.sought,s.leaf,s.bit,s.word,s.full,s.at_,s.tries,s.item,s.stamp⟩ ⟨l.rqs,l.ads,l.ers ++ [(v:Int)],l.ses⟩=an0 (v:Int) from by unfold tld;rw [if_pos ⟨rfl,by simp⟩];simp] at RT
 clear hL9 hLp
 go_simp
 refine (RT).mono ?_
 rintro e w10 ⟨X1,aX1,bX1,X2,aX2,bX2,rfl,I1,I2,K'⟩
 have Lb:=L.lts
 replace L:=L.over K'
 replace L:=L.is_new Lb I1
 replace L:=L.is_new Lb I2
 clear Lb
 try dsimp only [lF,List.cons_append,List.nil_append] at L
 clear I1 I2 RT
 refine hK.out _ _ (L.less 2) ?_
 clear hHeld hK K0
 intro hHeld
 clear K'
 try simp only [Act.put,sA,sZ,sS]
 refine rd 6 65 rfl fun K0 hK=>?_
 have hb1:aX1≤65536:=by have e0:aX1=0:=((L.is_ 1 rfl).len).symm;omega
 have hb2:aX2≤65536:=by have e0:aX2=0:=((L.is_ 0 rfl).len).symm;omega
 go_simp
 refine ((TA _ (an0 (v:Int)) _ _ _ _ _ _ _ _ _ _ _ _ _ _ _ _ (L.is_ 1 rfl) (L.is_ 0 rfl) (IS.none_ .u32 0 _) (IS.none_ .i64 0 _) hb1 hb2 (Nat.zero_le _) (Nat.zero_le _)).out).mono ?_
 rintro e w11 ⟨rfl,K'⟩
 replace L:=L.over K'
 clear hb1 hb2
 refine hK.out _ _ (L.less 2) ?_
 clear hHeld hK K0
 intro hHeld
 clear K'
 try simp only [Act.put,sA,sZ,sS]
 refine tg 7 66 (.bool true) rfl hHeld ?_
 refine tR 8 67 6 1 rfl rfl Tryz.underlying43 op_sz hHeld ?_
 refine tg 10 69 (.pointer (some ⟨gO,3,none⟩)) rfl hHeld ?_
 refine ty 11 70 (.agg #[.int .i64 s.err,.int .u32 s.aad,.bool s.used,.slice h.A1 h.n1 h.c1,.slice h.A2 h.n2 h.c2]) rfl ?_ hHeld ?_
 ·intro ww hS
  try dsimp only at hS
  have O_3:=(hS).at_ 3 3 rfl (v:=.int .i64 s.err) rfl
  have O_z:=(hS).lt 3 rfl
  have O_4:=(hS).at_ 3 4 rfl (v:=.int .u32 s.aad) rfl
  have O_z:=(hS).lt 3 rfl
  have O_5:=(hS).at_ 3 5 rfl (v:=.bool s.used) rfl
  have O_z:=(hS).lt 3 rfl
  have O_6:=(hS).at_ 3 6 rfl (v:=.slice h.A1 h.n1 h.c1) rfl
  have O_z:=(hS).lt 3 rfl
  have O_7:=(hS).at_ 3 7 rfl (v:=.slice h.A2 h.n2 h.c2) rfl
  have O_z:=(hS).lt 3 rfl
  go_simp
  try with_reducible rfl
  try omega
 refine rd 9 68 rfl fun K0 hK=>?_
 have hL9:=(hL.below L.K).lower_ (Nat.zero_le _)
 have hLp:Lists 0 w11 h l:=⟨hL9.i0,hL9.i1,hL9.i2,hL9.i3⟩
 have RT:=PS.tol (s:=⟨3,s.addr,s.err,s.aad,s.used,s.phase,s.shard,s.sought,s.leaf,s.bit,s.word,s.full,s.at_,s.tries,s.item,s.stamp⟩) hLp (by show h.n0≤60000;omega) (by show h.n1≤65536;omega) (by show h.n2≤60000;omega) (by show h.n3≤65000;omega)
 rw [show tld ⟨3,s.addr,s.err,s.aad,s.used,s.phase,s.shard,s.sought,s.leaf,s.bit,s.word,s.full,s.at_,s.tries,s.item,s.stamp⟩ l=(s.err,s.aad,s.used,l.ads,l.ers) from by unfold tld;rw [if_neg (by rintro ⟨h,_⟩;have h:(3:Int)=4:=h;omega)];rfl] at RT
 clear hL9 hLp
 go_simp
 refine (RT).mono ?_
 rintro e w12 ⟨Y1,aY1,bY1,Y2,aY2,bY2,rfl,I1,I2,K'⟩
 have Lb:=L.lts
 replace L:=L.over K'
 replace L:=L.is_new Lb I1
 replace L:=L.is_new Lb I2
 clear Lb
 try dsimp only [lF,List.cons_append,List.nil_append] at L
 clear I1 I2 RT
 refine hK.out _ _ (L.less 4) ?_
 clear hHeld hK K0
 intro hHeld
 clear K'
 try dsimp only
 refine rd 12 71 rfl fun K0 hK=>?_
 have hb1:aY1≤65536:=by have:=(L.is_ 1 rfl).len;have:=hz0.out.2.1;omega
 have hb2:aY2≤65536:=by have:=(L.is_ 0 rfl).len;have:=hz0.out.2.2.1;omega
 go_simp
 refine ((TA _ ((s.err,s.aad,s.used,l.ads,l.ers)) _ _ _ _ _ _ _ _ _ _ _ _ _ _ _ _ (L.is_ 1 rfl) (L.is_ 0 rfl) (hL.below L.K).i1 (hL.below L.K).i2 hb1 hb2 (by omega) (by omega)).out).mono ?_
 rintro e w13 ⟨rfl,K'⟩
 replace L:=L.over K'
 clear hb1 hb2
 refine hK.out _ _ (L.less 4) ?_
 clear hHeld hK K0
 intro hHeld
 clear K'
 try simp only [Act.put,sA,sZ,sS]
 refine tg 13 72 (.bool true) rfl hHeld ?_
 refine tg 14 73 (.bool true) rfl hHeld ?_
 refine tR 15 74 7 0 rfl rfl Tryz.underlying43 op_sz hHeld ?_
 refine tg 17 76 (.pointer (some ⟨gT,3,none⟩)) rfl hHeld ?_
 refine ty 18 77 (.agg #[.int .i64 s.err,.int .u32 s.aad,.bool s.used,.slice h.A1 h.n1 h.c1,.slice none 0 0]) rfl ?_ hHeld ?_
 ·intro ww hS
  try dsimp only at hS
  have T_3:=(hS).at_ 0 3 rfl (v:=.int .i64 s.err) rfl
  have T_z:=(hS).lt 0 rfl
  have T_4:=(hS).at_ 0 4 rfl (v:=.int .u32 s.aad) rfl
  have T_z:=(hS).lt 0 rfl
  have T_5:=(hS).at_ 0 5 rfl (v:=.bool s.used) rfl
  have T_z:=(hS).lt 0 rfl
  have T_6:=(hS).at_ 0 6 rfl (v:=.slice h.A1 h.n1 h.c1) rfl
  have T_z:=(hS).lt 0 rfl
  have T_7:=(hS).at_ 0 7 rfl (v:=.slice none 0 0) rfl
  have T_z:=(hS).lt 0 rfl
  go_simp
  try with_reducible rfl
  try omega
 refine rd 16 75 rfl fun K0 hK=>?_
 have hL9:=(hL.below L.K).lower_ (Nat.zero_le _)
 have hLp:Lists 0 w13 ⟨h.A0,h.n0,h.c0,h.A1,h.n1,h.c1,none,0,0,h.A3,h.n3,h.c3⟩ ⟨l.rqs,l.ads,[],l.ses⟩:=⟨hL9.i0,hL9.i1,IS.none_ _ _ _,hL9.i3⟩
 have RT:=PS.tol (s:=⟨4,s.addr,s.err,s.aad,s.used,s.phase,s.shard,s.sought,s.leaf,s.bit,s.word,s.full,s.at_,s.tries,s.item,s.stamp⟩) hLp (by show h.n0≤60000;omega) (by show h.n1≤65536;omega) (by show 0≤60000;omega) (by show h.n3≤65000;omega)
 rw [show tld ⟨4,s.addr,s.err,s.aad,s.used,s.phase,s.shard,s.sought,s.leaf,s.bit,s.word,s.full,s.at_,s.tries,s.item,s.stamp⟩ ⟨l.rqs,l.ads,[],l.ses⟩=(s.err,s.aad,s.used,l.ads,[]) from by unfold tld;rw [if_neg (fun h=>h.2 rfl)];rfl] at RT
 clear hL9 hLp
 go_simp
 refine (RT).mono ?_
 rintro e w14 ⟨Z1,aZ1,bZ1,Z2,aZ2,bZ2,rfl,I1,I2,K'⟩
 have Lb:=L.lts
 replace L:=L.over K'
 replace L:=L.is_new Lb I1
 replace L:=L.is_new Lb I2
 clear Lb
 try dsimp only [lF,List.cons_append,List.nil_append] at L
 clear I1 I2 RT
 refine hK.out _ _ (L.less 6) ?_
 clear hHeld hK K0
 intro hHeld
 clear K'
 try dsimp only
 refine rd 19 78 rfl fun K0 hK=>?_
 have hb1:aZ1≤65536:=by have:=(L.is_ 1 rfl).len;have:=hz0.out.2.1;omega
 have hb2:aZ2≤65536:=by have e0:aZ2=0:=((L.is_ 0 rfl).len).symm;omega
 go_simp
 refine ((TA _ ((s.err,s.aad,s.used,l.ads,[])) _ _ _ _ _ _ _ _ _ _ _ _ _ _ _ _ (L.is_ 1 rfl) (L.is_ 0 rfl) (hL.below L.K).i1 (IS.none_ .i64 0 _) hb1 hb2 (by omega) (Nat.zero_le _)).out).mono ?_
 rintro e w15 ⟨rfl,K'⟩
 replace L:=L.over K'
 clear hb1 hb2
 refine hK.out _ _ (L.less 6) ?_
 clear hHeld hK K0
 intro hHeld
 clear K'
 try simp only [Act.put,sA,sZ,sS]
 refine tg 20 79 (.bool true) rfl hHeld ?_
 refine tg 21 4 (.bool true) rfl hHeld ?_
 refine wpAnyH_done (by kernel_rfl) ?_ _
 clear hHeld
 go_wp2
 go_ret
 exact ⟨rfl,L.K⟩
theorem main (PS:PoolSays) (hW:Laid w) (hL:Lists lo w h l) (hHH:HH<256) :
  Calls Tryz.prog 6 #[.agg (opv h s),.int .u8 (HH:Int)] w (RetBo true w):=by
 by_cases q2:h.n2≤300
 ·by_cases q1:h.n1≤300
  ·by_cases q3:h.n3≤300
   ·by_cases q0:h.n0≤300
    ·exact near PS hW hL hHH q2 q1 q3 q0
    ·exact far0 PS hW hL hHH q2 q1 q3 (by omega)
   ·exact far3 PS hW hL hHH q2 q1 (by omega)
  ·exact far1 PS hW hL hHH q2 (by omega)
 ·exact far2 PS hW hL hHH (by omega)
end
end Go.Proofs.YtfhefofkhmkcnaaGreatDoor.poolTold
