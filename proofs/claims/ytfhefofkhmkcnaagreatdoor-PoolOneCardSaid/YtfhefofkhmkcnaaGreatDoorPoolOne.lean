/-
 The walk of the law PoolOne: for every configuration,home,request and doings of others it answers true.
-/
import Derived.Test.YtfhefofkhmkcnaaGreatDoorPl18

import Derived.Deep.DeepCutAuto
namespace Go.Proofs.YtfhefofkhmkcnaaGreatDoor.poolOne
set_option maxHeartbeats 8000000
set_option maxRecDepth 100000
open Go.RowKit
set_option linter.unusedVariables false
section
variable {w:World} {lo lo2 lo3 lo4 a X HH k q k2 q2 n0 c0:Nat} {p sh wo qu tr kd:Int} {A A0 E E2:Option Addr} {n c:Nat} {zs xs es es2:List Int}
theorem far0 (PS:PoolSays) (LG:LegSays) (hW:Laid w) (ha:a<4294967296) (h0:IS .i64 lo w A n c zs) (hs:IS .u32 lo2 w A0 n0 c0 xs) (hX:X<4294967296) (hw:W32 xs) (hHH:HH<256) (hE:IS .u32 lo3 w E k q es) (he:∀ x∈es,(Lit.int .u32 x).wf=true) (hE2:IS .u32 lo4 w E2 k2 q2 es2) (he2:∀ x∈es2,(Lit.int .u32 x).wf=true) (hf:¬ n0≤100) :
  Calls Tryz.prog 3 #[.agg #[.int .u32 (a:Int),.int .i64 p,.slice A n c,.int .i64 sh,.int .i64 wo,.int .i64 qu,.int .i64 tr],.int .u8 (HH:Int),.agg #[.int .i64 kd,.int .u32 (X:Int),.slice A0 n0 c0],.slice E k q,.slice E2 k2 q2] w (RetBo true w):=by
 go_enter Tryz.func3,Tryz.ntmps3
 go_upto_region 1 with (fail)
 have L:=Loc.start w
 replace L:=((L).alloc #[.int .u32 (a:Int),.int .i64 p,.slice A n c,.int .i64 sh,.int .i64 wo,.int .i64 qu,.int .i64 tr] 27).alloc #[.int .i64 kd,.int .u32 (X:Int),.slice A0 n0 c0] 30
 try simp only [World.size_alloc] at L
 try dsimp only [nput] at L
 generalize ((w).alloc (.cells #[.int .u32 (a:Int),.int .i64 p,.slice A n c,.int .i64 sh,.int .i64 wo,.int .i64 qu,.int .i64 tr] 27)).alloc (.cells #[.int .i64 kd,.int .u32 (X:Int),.slice A0 n0 c0] 30)=w1 at L ⊢
 generalize w.heap.size+1=gQ at L ⊢
 generalize w.heap.size=gH at L ⊢
 go_wp2_with fail
 refine ((PS.awk (hW.below L.K))).mono ?_
 rintro e w2 ⟨rfl,K'⟩
 replace L:=L.over K'
 go_wp2_with (refine wpList_load_want (by rfl) 27 (.tmp 5) rfl gH rfl _ _ (0,0) _ (L.bk_ 1 rfl) Tryz.underlying27 rfl cf_sz ?_)
 refine (small21_any ha (h0.below L.K)).mono ?_
 rintro e w3 ⟨bo,rfl,hB,K'⟩
 replace L:=L.over K'
 rcases bo with _ | _
 ·clear hB
  go_wp2_with fail
  refine (PS.awk (hW.below L.K)).mono ?_
  rintro e w92 ⟨rfl,K'⟩
  replace L:=L.over K'
  go_wp2
  go_ret
  exact ⟨rfl,L.K⟩
 replace hB:=hB rfl
 clear hB
 go_wp2_with (refine wpList_load_want (by rfl) 30 (.tmp 7) rfl gQ rfl _ _ (0,0) _ (L.bk_ 0 rfl) Tryz.underlying30 rfl ak_sz ?_)
 refine ((few_no (hs.below L.K) hf)).mono ?_
 rintro e w4 ⟨rfl,K'⟩
 replace L:=L.over K'
 go_wp2_with fail
 refine ((PS.awk (hW.below L.K))).mono ?_
 rintro e w5 ⟨rfl,K'⟩
 replace L:=L.over K'
 go_wp2
 go_ret
 exact ⟨rfl,L.K⟩
theorem far1 (PS:PoolSays) (LG:LegSays) (hW:Laid w) (ha:a<4294967296) (h0:IS .i64 lo w A n c zs) (hs:IS .u32 lo2 w A0 n0 c0 xs) (hX:X<4294967296) (hw:W32 xs) (hHH:HH<256) (hE:IS .u32 lo3 w E k q es) (he:∀ x∈es,(Lit.int .u32 x).wf=true) (hE2:IS .u32 lo4 w E2 k2 q2 es2) (he2:∀ x∈es2,(Lit.int .u32 x).wf=true) (hf:n0≤100) (hk:200<k) :
  Calls Tryz.prog 3 #[.agg #[.int .u32 (a:Int),.int .i64 p,.slice A n c,.int .i64 sh,.int .i64 wo,.int .i64 qu,.int .i64 tr],.int .u8 (HH:Int),.agg #[.int .i64 kd,.int .u32 (X:Int),.slice A0 n0 c0],.slice E k q,.slice E2 k2 q2] w (RetBo true w):=by
 have f0:decide ((200:Int)<(k:Int))=true:=by simp;omega
 go_enter Tryz.func3,Tryz.ntmps3
 go_upto_region 1 with (fail)
 have L:=Loc.start w
 replace L:=((L).alloc #[.int .u32 (a:Int),.int .i64 p,.slice A n c,.int .i64 sh,.int .i64 wo,.int .i64 qu,.int .i64 tr] 27).alloc #[.int .i64 kd,.int .u32 (X:Int),.slice A0 n0 c0] 30
 try simp only [World.size_alloc] at L
 try dsimp only [nput] at L
 generalize ((w).alloc (.cells #[.int .u32 (a:Int),.int .i64 p,.slice A n c,.int .i64 sh,.int .i64 wo,.int .i64 qu,.int .i64 tr] 27)).alloc (.cells #[.int .i64 kd,.int .u32 (X:Int),.slice A0 n0 c0] 30)=w1 at L ⊢
 generalize w.heap.size+1=gQ at L ⊢
 generalize w.heap.size=gH at L ⊢
 go_wp2_with fail
 refine ((PS.awk (hW.below L.K))).mono ?_
 rintro e w2 ⟨rfl,K'⟩
 replace L:=L.over K'
 go_wp2_with (refine wpList_load_want (by rfl) 27 (.tmp 5) rfl gH rfl _ _ (0,0) _ (L.bk_ 1 rfl) Tryz.underlying27 rfl cf_sz ?_)
 refine (small21_any ha (h0.below L.K)).mono ?_
 rintro e w3 ⟨bo,rfl,hB,K'⟩
 replace L:=L.over K'
 rcases bo with _ | _
 ·clear hB
  go_wp2_with fail
  refine (PS.awk (hW.below L.K)).mono ?_
  rintro e w92 ⟨rfl,K'⟩
  replace L:=L.over K'
  go_wp2
  go_ret
  exact ⟨rfl,L.K⟩
 replace hB:=hB rfl
 clear hB
 go_wp2_with (refine wpList_load_want (by rfl) 30 (.tmp 7) rfl gQ rfl _ _ (0,0) _ (L.bk_ 0 rfl) Tryz.underlying30 rfl ak_sz ?_)
 refine ((few_yes (hs.below L.K) hf)).mono ?_
 rintro e w4 ⟨rfl,K'⟩
 replace L:=L.over K'
 go_wp2_with fail
 refine ((PS.awk (hW.below L.K))).mono ?_
 rintro e w5 ⟨rfl,K'⟩
 replace L:=L.over K'
 go_wp2
 go_ret
 exact ⟨rfl,L.K⟩
theorem far2 (PS:PoolSays) (LG:LegSays) (hW:Laid w) (ha:a<4294967296) (h0:IS .i64 lo w A n c zs) (hs:IS .u32 lo2 w A0 n0 c0 xs) (hX:X<4294967296) (hw:W32 xs) (hHH:HH<256) (hE:IS .u32 lo3 w E k q es) (he:∀ x∈es,(Lit.int .u32 x).wf=true) (hE2:IS .u32 lo4 w E2 k2 q2 es2) (he2:∀ x∈es2,(Lit.int .u32 x).wf=true) (hf:n0≤100) (hk:k≤200) (hk2:200<k2) :
  Calls Tryz.prog 3 #[.agg #[.int .u32 (a:Int),.int .i64 p,.slice A n c,.int .i64 sh,.int .i64 wo,.int .i64 qu,.int .i64 tr],.int .u8 (HH:Int),.agg #[.int .i64 kd,.int .u32 (X:Int),.slice A0 n0 c0],.slice E k q,.slice E2 k2 q2] w (RetBo true w):=by
 have f0:decide ((200:Int)<(k:Int))=false:=by simp;omega
 have f1:decide ((200:Int)<(k2:Int))=true:=by simp;omega
 go_enter Tryz.func3,Tryz.ntmps3
 go_upto_region 1 with (fail)
 have L:=Loc.start w
 replace L:=((L).alloc #[.int .u32 (a:Int),.int .i64 p,.slice A n c,.int .i64 sh,.int .i64 wo,.int .i64 qu,.int .i64 tr] 27).alloc #[.int .i64 kd,.int .u32 (X:Int),.slice A0 n0 c0] 30
 try simp only [World.size_alloc] at L
 try dsimp only [nput] at L
 generalize ((w).alloc (.cells #[.int .u32 (a:Int),.int .i64 p,.slice A n c,.int .i64 sh,.int .i64 wo,.int .i64 qu,.int .i64 tr] 27)).alloc (.cells #[.int .i64 kd,.int .u32 (X:Int),.slice A0 n0 c0] 30)=w1 at L ⊢
 generalize w.heap.size+1=gQ at L ⊢
 generalize w.heap.size=gH at L ⊢
 go_wp2_with fail
 refine ((PS.awk (hW.below L.K))).mono ?_
 rintro e w2 ⟨rfl,K'⟩
 replace L:=L.over K'
 go_wp2_with (refine wpList_load_want (by rfl) 27 (.tmp 5) rfl gH rfl _ _ (0,0) _ (L.bk_ 1 rfl) Tryz.underlying27 rfl cf_sz ?_)
 refine (small21_any ha (h0.below L.K)).mono ?_
 rintro e w3 ⟨bo,rfl,hB,K'⟩
 replace L:=L.over K'
 rcases bo with _ | _
 ·clear hB
  go_wp2_with fail
  refine (PS.awk (hW.below L.K)).mono ?_
  rintro e w92 ⟨rfl,K'⟩
  replace L:=L.over K'
  go_wp2
  go_ret
  exact ⟨rfl,L.K⟩
 replace hB:=hB rfl
 clear hB
 go_wp2_with (refine wpList_load_want (by rfl) 30 (.tmp 7) rfl gQ rfl _ _ (0,0) _ (L.bk_ 0 rfl) Tryz.underlying30 rfl ak_sz ?_)
 refine ((few_yes (hs.below L.K) hf)).mono ?_
 rintro e w4 ⟨rfl,K'⟩
 replace L:=L.over K'
 go_wp2_with fail
 refine ((PS.awk (hW.below L.K))).mono ?_
 rintro e w5 ⟨rfl,K'⟩
 replace L:=L.over K'
 go_wp2
 go_ret
 exact ⟨rfl,L.K⟩
theorem near (PS:PoolSays) (LG:LegSays) (hW:Laid w) (ha:a<4294967296) (h0:IS .i64 lo w A n c zs) (hs:IS .u32 lo2 w A0 n0 c0 xs) (hX:X<4294967296) (hw:W32 xs) (hHH:HH<256) (hE:IS .u32 lo3 w E k q es) (he:∀ x∈es,(Lit.int .u32 x).wf=true) (hE2:IS .u32 lo4 w E2 k2 q2 es2) (he2:∀ x∈es2,(Lit.int .u32 x).wf=true) (hf:n0≤100) (hk:k≤200) (hk2:k2≤200) :
  Calls Tryz.prog 3 #[.agg #[.int .u32 (a:Int),.int .i64 p,.slice A n c,.int .i64 sh,.int .i64 wo,.int .i64 qu,.int .i64 tr],.int .u8 (HH:Int),.agg #[.int .i64 kd,.int .u32 (X:Int),.slice A0 n0 c0],.slice E k q,.slice E2 k2 q2] w (RetBo true w):=by
 have f0:decide ((200:Int)<(k:Int))=false:=by simp;omega
 have f1:decide ((200:Int)<(k2:Int))=false:=by simp;omega
 replace he:=Lib.hid he
 replace he2:=Lib.hid he2
 go_enter Tryz.func3,Tryz.ntmps3
 go_upto_region 1 with (fail)
 have L:=Loc.start w
 replace L:=((L).alloc #[.int .u32 (a:Int),.int .i64 p,.slice A n c,.int .i64 sh,.int .i64 wo,.int .i64 qu,.int .i64 tr] 27).alloc #[.int .i64 kd,.int .u32 (X:Int),.slice A0 n0 c0] 30
 try simp only [World.size_alloc] at L
 try dsimp only [nput] at L
 generalize ((w).alloc (.cells #[.int .u32 (a:Int),.int .i64 p,.slice A n c,.int .i64 sh,.int .i64 wo,.int .i64 qu,.int .i64 tr] 27)).alloc (.cells #[.int .i64 kd,.int .u32 (X:Int),.slice A0 n0 c0] 30)=w1 at L ⊢
 generalize w.heap.size+1=gQ at L ⊢
 generalize w.heap.size=gH at L ⊢
 go_wp2_with fail
 refine ((PS.awk (hW.below L.K))).mono ?_
 rintro e w2 ⟨rfl,K'⟩
 replace L:=L.over K'
 go_wp2_with (refine wpList_load_want (by rfl) 27 (.tmp 5) rfl gH rfl _ _ (0,0) _ (L.bk_ 1 rfl) Tryz.underlying27 rfl cf_sz ?_)
 refine (small21_any ha (h0.below L.K)).mono ?_
 rintro e w3 ⟨bo,rfl,hB,K'⟩
 replace L:=L.over K'
 rcases bo with _ | _
 ·clear hB
  go_wp2_with fail
  refine (PS.awk (hW.below L.K)).mono ?_
  rintro e w92 ⟨rfl,K'⟩
  replace L:=L.over K'
  go_wp2
  go_ret
  exact ⟨rfl,L.K⟩
 replace hB:=hB rfl
 obtain ⟨⟨M,ns,hC⟩,ht1,ht8⟩:=hB
 obtain ⟨tn,htn⟩:∃ tn:Nat,tr=(tn:Int):=⟨tr.toNat,by omega⟩
 subst htn
 have hshe:=hC.ns_
 subst hshe
 have hM:=hC.much
 have h1:=hC.ns1
 have h2:=hC.ns2
 have hM9:=hC.sml
 have hMp:=hM.pos
 have hMm:=hM.most
 have hn9:=hC.few
 have hfit:=hM.fits ha
 have hris:=hC.ris
 have hlv:lv M≤8∧1≤lv M∧tv M=1:=by unfold tv tq lv;omega
 obtain ⟨m,hm⟩:∃ m,m=lv M+tv M+1:=⟨_,rfl⟩
 have hm6:m≤65536∧0<m∧lv M≤m:=by omega
 obtain ⟨y0,hy0⟩:∃ y0,y0=cl (nw M zs) (lv M) (tv M) (lv M):=⟨_,rfl⟩
 have hY0:=yi_start (M:=M) (zs:=zs)
 have TW:=fun w (h:IS .i64 lo w A n c zs)=>Lib.hid (wcells_new (w:=w) (sh:=(ns:Int)) (wo:=wo) (qu:=qu) (tr:=(tn:Int)) ha hM h (by omega) hC.ris)
 rw [← hy0] at hY0
 simp only [← hy0,← hm] at TW
 replace hm:=Lib.hid hm
 clear hy0
 have TD:=fun w D B d ys (hD:D<4294967296) (hY:YI M zs ys) (h:IS .i64 lo w A n c zs) (U:US w B m d ys)=>Lib.hid (dist_any (w:=w) (p:=p) (wo:=wo) (qu:=qu) (tr:=(tn:Int)) hD hC h hY U)
 have TO:=fun w B d ys (h:IS .i64 lo w A n c zs) (U:US w B m d ys)=>Lib.hid (rof_new (w:=w) (sh:=(ns:Int)) (wo:=wo) (qu:=qu) (tr:=(tn:Int)) hM h (by omega) U hm6.2.2 hm6.1)
 have hxl:xs.length≤60000:=by have:=hs.len;omega
 have TS:=fun w lo2 h B d ys s l N item (hN:N≤60000) (hI:PI a M ns tn zs kd X xs N item s l) (hY:YI M zs ys) (h0:IS .i64 lo w A n c zs) (U:US w B m d ys) (L:Lists lo2 w h l) (hp:s.phase≠0)=>Lib.hid (PS.stp (wo:=wo) (qu:=qu) ha hM h1 h2 (by omega) hN h0 (by omega) hC.ris hxl hI hY U L hp)
 skip
 replace hC:=Lib.hid hC
 go_wp2_with (refine wpList_load_want (by rfl) 30 (.tmp 7) rfl gQ rfl _ _ (0,0) _ (L.bk_ 0 rfl) Tryz.underlying30 rfl ak_sz ?_)
 refine ((few_yes (hs.below L.K) hf)).mono ?_
 rintro e w4 ⟨rfl,K'⟩
 replace L:=L.over K'
 go_wp2_with (refine lC 5 (L.bk_ 1 rfl) ?_)
 refine ((TW _ (h0.below L.K)).out).mono ?_
 rintro e w5 ⟨gU,dU,rfl,U,hgU,K'⟩
 have Lb:=L.lts
 replace L:=L.over K'
 replace L:=L.us_av (fun i b e b' o e'=>by injection e' with e';injection e' with e1;have:=Lb i b e;omega) U
 clear Lb
 try dsimp only [lF,List.cons_append,List.nil_append] at L
 clear U hgU
 go_wp2
 go_loopw [11,12] (fun lv_ iv wr=>∃ (j:Nat) (B:Option Addr) (d:Nat) (ys:List Nat),j≤k∧lv_=.slice B m d∧iv=.int .i64 (j:Nat)∧YI M zs ys∧Loc w wr [(gQ,30,#[.int .i64 kd,.int .u32 (X:Int),.slice A0 n0 c0]),(gH,27,#[.int .u32 (a:Int),.int .i64 p,.slice A n c,.int .i64 (ns:Int),.int .i64 wo,.int .i64 qu,.int .i64 (tn:Int)])] [uF B m d ys]) (fun _ iv _=>k - (intOf iv).toNat)
 case atStart=>exact ⟨0,_,_,y0,Nat.zero_le _,rfl,rfl,hY0.1,L⟩
 case round =>
  clear L
  obtain ⟨j,B,d,ys,hj,rfl,rfl,hY,L⟩:=hrel
  by_cases hlt:j<k
  ·obtain ⟨be,oe,hEe,hbe,hce⟩:=hE.get hlt
   obtain ⟨D,hD,hD2⟩:=wf_u32 (he.out (gi es j) (gi_mem (by have:=hE.len;omega)))
   rw [hD] at hce
   subst hEe
   clear hD
   have hj2:(j:Int)<(k:Int):=by omega
   go_upto_region 7 with (fail)
   refine rg L fun v6 hHeld=>?_
   replace L:=hHeld
   refine tR 0 58 5 1 rfl rfl Tryz.underlying27 cf_sz hHeld ?_
   refine tz 1 59 rfl hHeld ?_
   refine tg 2 60 (.slice (some ⟨be,oe,none⟩) k q) rfl hHeld ?_
   refine tg 3 61 (.int .i64 (j:Int)) rfl hHeld ?_
   refine tg 4 62 (.pointer (some ⟨be,oe+j,none⟩)) rfl hHeld ?_
   refine ty 5 63 (.int .u32 (D:Int)) rfl ?_ hHeld ?_
   ·intro ww hS
    try dsimp only at hS
    have XE:=(((hS)).K.cell (p:=⟨be,oe+j,none⟩) hbe).trans hce
    go_simp
    try with_reducible rfl
    try omega
   refine rd 6 64 rfl fun K0 hK=>?_
   go_simp
   refine ((TD _ _ _ _ _ hD2 hY (h0.below L.K) (L.us_ 0 rfl)).out).mono ?_
   rintro e w7 ⟨B3,d3,y3,rfl,U,hDR,hA,K'⟩
   have Lb:=L.lts
   replace L:=L.over K'
   replace L:=L.us_av (fun i b e=>hA b.1 (Lb i b e) (L.ap_ 0 rfl hm6.2.1 i b e)) U
   clear Lb
   try dsimp only [lF,List.cons_append,List.nil_append] at L
   clear U hA
   refine hK.out _ _ (L.less 1) ?_
   clear hHeld hK K0
   intro hHeld
   clear K'
   try simp only [Act.put,sA,sZ,sS]
   refine tg 7 11 (.slice B3 m d3) rfl hHeld ?_
   refine wpAnyH_done (by kernel_rfl) ?_ _
   clear hHeld
   go_wp2
   replace L:=L.only (fs':=[uF B3 m d3 y3]) (by simp)
   go_roundw
   case rel=>exact ⟨j+1,B3,d3,y3,by omega,rfl,by go_num,(dist_leaf hMm hY hDR).1,L⟩
   case measure=>simp [intOf];omega
  have hjk:j=k:=by omega
  have hno:¬ ((j:Int)<(k:Int)):=by omega
  clear hj hlt
  obtain ⟨hd,ehd1,ehd2,hhd⟩:=ghd_of (X:=HH) h1
  have hns0:¬ ((ns:Int)=0):=by omega
  obtain rfl:k=j:=hjk.symm
  have hHw:IntKind.i64.wrap (HH:Int)=(HH:Int):=IntWalk.i64_in _ (by omega)
  have ht1n:1≤tn:=by omega
  go_upto_region 8 with (fail)
  try simp only [Act.put,sA,sZ,sS]
  go_cut [13,14] from 65 to 75 (fun q_0 q_1 wx=>∃ (gO:Nat) (h6:Hd) (s0:Sc) (l0:Ls) (bg:Bool),(l0.rqs=xs∧PBg a M ns tn zs kd X xs s0 l0 bg)∧q_0=Value.pointer (some ⟨gO,0,none⟩)∧q_1=Value.bool bg∧Loc w wx [(gO,43,opv h6 s0),(gQ,30,#[.int .i64 kd,.int .u32 (X:Int),.slice A0 n0 c0]),(gH,27,#[.int .u32 (a:Int),.int .i64 p,.slice A n c,.int .i64 (ns:Int),.int .i64 wo,.int .i64 qu,.int .i64 (tn:Int)])] [oF h6 l0,uF B m d ys])
  case first =>
   refine rg L fun v6 hHeld=>?_
   replace L:=hHeld
   refine tR 0 66 5 1 rfl rfl Tryz.underlying27 cf_sz hHeld ?_
   refine tg 1 67 (.int .u8 (HH:Int)) rfl hHeld ?_
   refine tg 2 68 (.int .i64 (HH:Int)) rfl hHeld ?_
   refine tg 3 69 (.pointer (some ⟨gH,3,none⟩)) rfl hHeld ?_
   refine tC 4 70 1 3 rfl rfl rfl hHeld ?_
   refine tg 5 71 (.int .i64 (hd:Int)) rfl hHeld ?_
   refine tR 6 72 7 0 rfl rfl Tryz.underlying30 ak_sz hHeld ?_
   refine wpAnyH_ready (rs:=[7,11]) (by kernel_rfl) (by simp) ?_
   refine (AllReadyH.cons (o:=⟨some 73,_,_,_,_,_⟩) rfl (fun K0 hK=>?_) (AllReadyH.cons (o:=⟨some 13,_,_,_,_,_⟩) rfl (fun K0 hK=>?_) AllReadyH.nil))
   ·go_simp
    refine (PS.beg (hW.below L.K) ha hM h1 ht1n (h0.below L.K) (by omega) (by omega) (by omega) hX (hs.below L.K) (by omega) hw).mono ?_
    rintro e w7 ⟨h6,s0,l0,bg,rfl,L',hlq,hPB,K'⟩
    have Lb:=L.lts
    replace L:=L.over K'
    replace L:=L.of_new Lb L'
    clear Lb
    try dsimp only [lF,List.cons_append,List.nil_append] at L
    clear L'
    refine hK.out _ _ (L.less 1) ?_
    clear hHeld hK K0
    intro hHeld
    clear K'
    try simp only [Act.put,sA,sZ,sS]
    refine tz 8 65 rfl hHeld ?_
    refine tg 9 74 (.agg (opv h6 s0)) rfl hHeld ?_
    refine tg 10 75 (.bool bg) rfl hHeld ?_
    refine rd 11 13 rfl fun K0 hK=>?_
    go_simp
    refine hK.out _ _ ((L.other _).less 1) ?_
    clear hHeld hK K0
    intro hHeld
    replace L:=L.alloc #[.int .i64 0,.int .u32 0,.slice none 0 0,.int .i64 0,.int .u32 0,.bool false,.slice none 0 0,.slice none 0 0,.int .i64 0,.int .i64 0,.int .i64 0,.int .i64 0,.int .i64 0,.int .u64 0,.bool false,.slice none 0 0,.int .i64 0,.int .i64 0,.int .i64 0,.int .i64 0] 43
    replace L:=L.is0 (opv hd0 sc0) rfl
    generalize w7.alloc (.cells #[.int .i64 0,.int .u32 0,.slice none 0 0,.int .i64 0,.int .u32 0,.bool false,.slice none 0 0,.slice none 0 0,.int .i64 0,.int .i64 0,.int .i64 0,.int .i64 0,.int .i64 0,.int .u64 0,.bool false,.slice none 0 0,.int .i64 0,.int .i64 0,.int .i64 0,.int .i64 0] 43)=v8 at hHeld L ⊢
    generalize w7.heap.size=gO at L ⊢
    try simp only [Act.put,sA,sZ,sS]
    refine rn 12 rfl fun K0 hK=>?_
    rw [if_pos (by rfl)]
    refine wp_store_row 43 (.tmp 13) (.tmp 74) rfl gO _ rfl rfl _ _ (L.bk_ 0 rfl) op_sz rfl (opv_one _ _) ?_
    replace L:=L.row 0 rfl (opv h6 s0)
    try dsimp only [nput] at L
    refine hK.out _ _ ((L.less 1).del 0) ?_
    clear hHeld hK K0
    intro hHeld
    generalize v8.setRow gO (opv h6 s0)=v9 at hHeld L ⊢
    try simp only [Act.put]
    refine tg 13 14 (.bool bg) rfl hHeld ?_
    refine wpAnyH_done (by kernel_rfl) ?_ _
    clear hHeld
    go_wp2
    replace L:=L.only (fs':=[oF h6 l0,uF B m d ys]) (by simp)
    go_meet
    exact ⟨_,_,_,_,_,⟨hlq,hPB⟩,rfl,rfl,L⟩
   ·go_simp
    refine hK.out _ _ (L.other _) ?_
    clear hHeld hK K0
    intro hHeld
    replace L:=L.alloc #[.int .i64 0,.int .u32 0,.slice none 0 0,.int .i64 0,.int .u32 0,.bool false,.slice none 0 0,.slice none 0 0,.int .i64 0,.int .i64 0,.int .i64 0,.int .i64 0,.int .i64 0,.int .u64 0,.bool false,.slice none 0 0,.int .i64 0,.int .i64 0,.int .i64 0,.int .i64 0] 43
    replace L:=L.is0 (opv hd0 sc0) rfl
    generalize v6.alloc (.cells #[.int .i64 0,.int .u32 0,.slice none 0 0,.int .i64 0,.int .u32 0,.bool false,.slice none 0 0,.slice none 0 0,.int .i64 0,.int .i64 0,.int .i64 0,.int .i64 0,.int .i64 0,.int .u64 0,.bool false,.slice none 0 0,.int .i64 0,.int .i64 0,.int .i64 0,.int .i64 0] 43)=v7 at hHeld L ⊢
    generalize v6.heap.size=gO at L ⊢
    try simp only [Act.put,sA,sZ,sS]
    refine rd 7 73 rfl fun K0 hK=>?_
    go_simp
    refine (PS.beg (hW.below L.K) ha hM h1 ht1n (h0.below L.K) (by omega) (by omega) (by omega) hX (hs.below L.K) (by omega) hw).mono ?_
    rintro e w8 ⟨h6,s0,l0,bg,rfl,L',hlq,hPB,K'⟩
    have Lb:=L.lts
    replace L:=L.over K'
    replace L:=L.of_new Lb L'
    clear Lb
    try dsimp only [lF,List.cons_append,List.nil_append] at L
    clear L'
    refine hK.out _ _ ((L.less 1).del 0) ?_
    clear hHeld hK K0
    intro hHeld
    clear K'
    try simp only [Act.put,sA,sZ,sS]
    refine tz 8 65 rfl hHeld ?_
    refine tg 9 74 (.agg (opv h6 s0)) rfl hHeld ?_
    refine tg 10 75 (.bool bg) rfl hHeld ?_
    refine rn 12 rfl fun K0 hK=>?_
    rw [if_pos (by rfl)]
    refine wp_store_row 43 (.tmp 13) (.tmp 74) rfl gO _ rfl rfl _ _ (L.bk_ 0 rfl) op_sz rfl (opv_one _ _) ?_
    replace L:=L.row 0 rfl (opv h6 s0)
    try dsimp only [nput] at L
    refine hK.out _ _ ((L.less 1).del 0) ?_
    clear hHeld hK K0
    intro hHeld
    generalize w8.setRow gO (opv h6 s0)=v9 at hHeld L ⊢
    try simp only [Act.put]
    refine tg 13 14 (.bool bg) rfl hHeld ?_
    refine wpAnyH_done (by kernel_rfl) ?_ _
    clear hHeld
    go_wp2
    replace L:=L.only (fs':=[oF h6 l0,uF B m d ys]) (by simp)
    go_meet
    exact ⟨_,_,_,_,_,⟨hlq,hPB⟩,rfl,rfl,L⟩
  case rest =>
   clear L
   obtain ⟨gO,h6,s0,l0,bg,⟨hlq,hPB⟩,rfl,rfl,L⟩:=hcut
   unfold PBg at hPB
   rcases hPB with ⟨ebg,hq1,hq2,hq3⟩ | ⟨ebg,hq1,hq2,hq3,-,-⟩
   ·subst ebg
    obtain ⟨hq2,hle3,-⟩:=hq2
    replace hle3:=Lib.hid hle3
    replace hlq:=Lib.hid hlq
    have hle1:l0.ads=[]:=congrArg (fun x:An=>x.2.2.2.1) hq3
    have hle2:l0.ers=[]:=congrArg (fun x:An=>x.2.2.2.2) hq3
    replace hle1:=Lib.hid hle1
    replace hle2:=Lib.hid hle2
    replace hq3:=tld_at hq3
    have hlg:=leg_once (xs:=os (uf zs ys) M) hq1
    rw [← hq3] at hlg
    have hax:(0≤(tld s0 l0).2.1∧(tld s0 l0).2.1<4294967296)∧(tld s0 l0).2.2.2.1=[]∧(tld s0 l0).2.2.2.2=[]:=by rw [hq3];exact ⟨⟨Int.le_refl _,by show (0:Int)<_;omega⟩,rfl,rfl⟩
    clear hq1 hq3
    obtain ⟨xa,hxa⟩:∃ xa,xa=tld s0 l0:=⟨_,rfl⟩
    rw [← hxa] at hlg hax
    have hmy:=os_may M zs ys
    have hlz:=len_os (uf zs ys) M
    obtain ⟨zw,hzw⟩:∃ zw,zw=os (uf zs ys) M:=⟨_,rfl⟩
    have TO3:=fun w B d h U=>TO w B d ys h U
    simp only [← hzw] at hlg hmy hlz TO3
    obtain ⟨hax1,hax2,hax3⟩:=hax
    replace hxa:=Lib.hid hxa
    replace hlg:=Lib.hid hlg
    replace hmy:=Lib.hid hmy
    replace hax2:=Lib.hid hax2
    replace hax3:=Lib.hid hax3
    clear hzw TO
    go_upto_region 10 with (fail)
    refine rg L fun v10 hHeld=>?_
    replace L:=hHeld
    refine tR 0 78 5 2 rfl rfl Tryz.underlying27 cf_sz hHeld ?_
    refine tR 1 79 5 2 rfl rfl Tryz.underlying27 cf_sz hHeld ?_
    refine tg 2 80 (.slice B m d) rfl hHeld ?_
    refine tR 4 82 7 1 rfl rfl Tryz.underlying30 ak_sz hHeld ?_
    refine tR 5 83 13 0 rfl rfl Tryz.underlying43 op_sz hHeld ?_
    refine rd 3 81 rfl fun K0 hK=>?_
    go_simp
    refine ((TO3 _ _ _ (h0.below L.K) (L.us_ 1 rfl)).out).mono ?_
    rintro e w11 ⟨Az,nz,cz,rfl,I,K'⟩
    have Lb:=L.lts
    replace L:=L.over K'
    replace L:=L.is_new Lb I
    clear Lb
    try dsimp only [lF,List.cons_append,List.nil_append] at L
    clear I
    refine hK.out _ _ (L.less 1) ?_
    clear hHeld hK K0
    intro hHeld
    clear K'
    try simp only [Act.put,sA,sZ,sS]
    refine rd 6 84 rfl fun K0 hK=>?_
    have RTe:=(L.of_ 1 rfl).emp_
    have RT0:h6.n0≤60000:=by rw [RTe.1,hlq.out];exact hxl
    have RT1:h6.n1≤65536:=by rw [RTe.2.1,hle1.out];exact Nat.zero_le _
    have RT2:h6.n2≤60000:=by rw [RTe.2.2.1,hle2.out];exact Nat.zero_le _
    have RT3:h6.n3≤65000:=by rw [RTe.2.2.2,hle3.out];exact Nat.zero_le _
    clear RTe
    have RT:=PS.tol (L.of_ 1 rfl) (s:=s0) RT0 RT1 RT2 RT3
    rw [← hxa.out] at RT
    clear RT0 RT1 RT2 RT3
    go_simp
    refine (RT).mono ?_
    rintro e w12 ⟨P1,aP1,bP1,P2,aP2,bP2,rfl,I1,I2,K'⟩
    have Lb:=L.lts
    replace L:=L.over K'
    replace L:=L.is_new Lb I1
    replace L:=L.is_new Lb I2
    clear Lb
    try dsimp only [lF,List.cons_append,List.nil_append] at L
    clear I1 I2
    refine hK.out _ _ (L.less 3) ?_
    clear hHeld hK K0
    intro hHeld
    clear K'
    try simp only [Act.put,sA,sZ,sS]
    refine rd 7 85 rfl fun K0 hK=>?_
    have hb1:nz≤60000:=by have:=(L.is_ 2 rfl).len;omega
    have hb2:aP1≤65536:=by have:=(L.is_ 1 rfl).len;rw [hax2.out,List.length_nil] at this;omega
    have hb3:aP2≤60000:=by have:=(L.is_ 0 rfl).len;rw [hax3.out,List.length_nil] at this;omega
    go_simp
    refine (LG.leg ha hM (h0.below L.K) (by omega) (L.is_ 2 rfl) (by have:=(L.is_ 2 rfl).len;omega) hmy.out hX (hs.below L.K) (by omega) hw (L.is_ 1 rfl) (L.is_ 0 rfl) hb2 hb3 hax1 hlg.out).mono ?_
    rintro e w13 ⟨Sx,nx,cx,rfl,-,-,K'⟩
    replace L:=L.over K'
    refine hK.out _ _ (L.less 3) ?_
    clear hHeld hK K0
    intro hHeld
    clear K'
    try dsimp only
    refine tz 8 77 rfl hHeld ?_
    refine tg 9 86 (.slice Sx nx cx) rfl hHeld ?_
    refine tg 10 87 (.bool true) rfl hHeld ?_
    refine tg 11 15 (.slice Sx nx cx) rfl hHeld ?_
    refine tg 12 16 (.bool true) rfl hHeld ?_
    refine wpAnyH_done (by kernel_rfl) ?_ _
    clear hHeld
    have O_8:=L.at_ 0 8 rfl (v:=.int .i64 0) (by show some (Value.int .i64 s0.phase)=_;rw [hq2])
    have O_z:=L.lt 0 rfl
    go_wp2_with fail
    clear O_8 O_z
    go_ret
    exact ⟨rfl,L.K⟩
   ·subst ebg
    go_wp2
    clear hlq hno
    go_loopw [11,17,18] (fun lv_ tv_ iv wr=>∃ (u item:Nat) (h:Hd) (s:Sc) (l:Ls) (B2:Option Addr) (d2:Nat) (y2:List Nat),u≤k2∧item≤u∧lv_=.slice B2 m d2∧tv_=.int .i64 (item:Nat)∧iv=.int .i64 (u:Nat)∧PI a M ns tn zs kd X xs u item s l∧YI M zs y2∧Loc w wr [(gO,43,opv h s),(gQ,30,#[.int .i64 kd,.int .u32 (X:Int),.slice A0 n0 c0]),(gH,27,#[.int .u32 (a:Int),.int .i64 p,.slice A n c,.int .i64 (ns:Int),.int .i64 wo,.int .i64 qu,.int .i64 (tn:Int)])] [oF h l,uF B2 m d2 y2]) (fun _ _ iv _=>k2 - (intOf iv).toNat)
    case atStart =>
     exact ⟨0,0,h6,s0,l0,B,d,ys,by omega,by omega,rfl,rfl,rfl,hq3,hY,L⟩
    case round =>
     clear L hY hq3
     obtain ⟨u,item,h,s,l,B2,d2,y2,hu,hit,rfl,rfl,rfl,hPI,hY2,L⟩:=hrel
     by_cases hlt:u<k2
     ·obtain ⟨be,oe,hEe,hbe,hce⟩:=hE2.get hlt
      obtain ⟨D,hD,hD2⟩:=wf_u32 (he2.out (gi es2 u) (gi_mem (by have:=hE2.len;omega)))
      rw [hD] at hce
      subst hEe
      clear hD
      have hu2:(u:Int)<(k2:Int):=by omega
      by_cases hp:s.phase=0
      rotate_left
      ·have hp1:(s.phase != 0)=true:=by simp [hp]
       have e1:IntKind.i64.wrap ((item:Int)+1)=(item:Int)+1:=IntWalk.i64_in _ (by omega)
       have O_8:=L.at_ 0 8 rfl (v:=.int .i64 s.phase) rfl
       have O_z:=L.lt 0 rfl
       go_upto_region 16 with fail
       clear O_8 O_z
       refine rg L fun v10 hHeld=>?_
       replace L:=hHeld
       refine tR 0 105 5 2 rfl rfl Tryz.underlying27 cf_sz hHeld ?_
       refine tz 1 106 rfl hHeld ?_
       refine tg 2 107 (.slice (some ⟨be,oe,none⟩) k2 q2) rfl hHeld ?_
       refine tg 3 108 (.int .i64 (u:Int)) rfl hHeld ?_
       refine tg 4 109 (.pointer (some ⟨be,oe+u,none⟩)) rfl hHeld ?_
       refine ty 5 110 (.int .u32 (D:Int)) rfl ?_ hHeld ?_
       ·intro ww hS
        try dsimp only at hS
        have XE:=(((hS)).K.cell (p:=⟨be,oe+u,none⟩) hbe).trans hce
        go_simp
        try with_reducible rfl
        try omega
       refine rd 6 111 rfl fun K0 hK=>?_
       go_simp
       refine ((TD _ _ _ _ _ hD2 hY2 (h0.below L.K) (L.us_ 1 rfl)).out).mono ?_
       rintro e w11 ⟨B3,d3,y3,rfl,U,hDR,hA,K'⟩
       have Lb:=L.lts
       replace L:=L.over K'
       replace L:=L.us_av (fun i b e=>hA b.1 (Lb i b e) (L.ap_ 1 rfl hm6.2.1 i b e)) U
       clear Lb
       try dsimp only [lF,List.cons_append,List.nil_append] at L
       clear U hA
       refine hK.out _ _ (L.less 1) ?_
       clear hHeld hK K0
       intro hHeld
       clear K'
       try simp only [Act.put,sA,sZ,sS]
       refine tg 7 11 (.slice B3 m d3) rfl hHeld ?_
       refine wpAnyH_done (by kernel_rfl) ?_ _
       clear hHeld
       have hY3:=(dist_leaf hMm hY2 hDR).1
       have TK:=fun w lo2 h B d h0 U L=>TS w lo2 h B d y3 s l u item (by omega) hPI hY3 h0 U L hp
       have TO3:=fun w B d h U=>TO w B d y3 h U
       have hmy:=os_may M zs y3
       have hlz:=len_os (uf zs y3) M
       obtain ⟨zw,hzw⟩:∃ z,z=os (uf zs y3) M:=⟨_,rfl⟩
       simp only [← hzw] at TO3 hmy hlz
       replace hzw:=Lib.hid hzw
       replace hmy:=Lib.hid hmy
       clear hPI hY2 TS hp hDR
       go_wp2_with (refine lC 5 (L.bk_ 2 rfl) ?_)
       refine ((TO3 _ _ _ (h0.below L.K) (L.us_ 0 rfl)).out).mono ?_
       rintro e w12 ⟨Az,nz,cz,rfl,I,K'⟩
       have Lb:=L.lts
       replace L:=L.over K'
       replace L:=L.is_new Lb I
       clear Lb
       try dsimp only [lF,List.cons_append,List.nil_append] at L
       have hlw:nz≤60000:=by have:=I.len;omega
       clear I
       generalize w11.heap.size=lz at L
       go_wp2_with (first | (refine lC 5 (L.bk_ 2 rfl) ?_) | (refine lO 13 (L.bk_ 0 rfl) ?_))
       refine ((TK _ _ _ _ _ (h0.below L.K) (L.us_ 1 rfl) (L.of_ 2 rfl)).out).mono ?_
       rintro e w13 ⟨h4,B4,d4,s3,l3,y4,b3,rfl,U,L',hA,K',hPO⟩
       have Lb:=L.lts
       replace L:=L.over K'
       replace L:=L.us_av (fun i b e=>hA b.1 (Lb i b e) (L.ap_ 1 rfl hm6.2.1 i b e)) U
       replace L:=L.of_new Lb L'
       clear Lb
       try dsimp only [lF,List.cons_append,List.nil_append] at L
       clear U L' hA
       obtain ⟨hI4,hY4,hef,hno,-⟩:=hPO
       have hfw:=tld_few hMm hfit hxl hI4
       have hlf:=hI4.few hMm hfit hxl
       have TO4:=fun w B d h U=>TO w B d y4 h U
       have hln:=len_os (uf zs y4) M
       obtain ⟨lt,hlt9⟩:∃ lt,lt=late s s3:=⟨_,rfl⟩
       obtain ⟨zn,hzn⟩:∃ z,z=os (uf zs y4) M:=⟨_,rfl⟩
       simp only [← hzw.out,← hlt9,← hzn] at hef hno
       simp only [← hlt9] at hI4
       simp only [← hzn] at TO4 hln
       clear hzn hzw
       replace hlt9:=Lib.hid hlt9
       replace hI4:=Lib.hid hI4
       replace hY4:=Lib.hid hY4
       replace hef:=Lib.hid hef
       replace hno:=Lib.hid hno
       replace hfw:=Lib.hid hfw
       replace hlf:=Lib.hid hlf
       go_upto_region 19 with (refine wpList_store_row rfl 43 (.tmp 21) (.tmp 121) rfl _ _ rfl (show _=Value.agg (opv h4 s3) from rfl) _ _ (Bk.new _ _ _) op_sz rfl (opv_one _ _) ?_)
       try rw [World.setRow_alloc_new]
       replace L:=(L).alloc (opv h4 s3) 43
       try simp only [World.size_alloc] at L
       try dsimp only [nput] at L
       generalize (w13).alloc (.cells (opv h4 s3) 43)=w14 at L ⊢
       generalize w13.heap.size=gP at L ⊢
       go_wp2_with (refine lC 5 (L.bk_ 3 rfl) ?_)
       refine ((TO4 _ _ _ (h0.below L.K) (L.us_ 1 rfl)).out).mono ?_
       rintro e w15 ⟨Ax,nx0,cx0,rfl,I,K'⟩
       have Lb:=L.lts
       replace L:=L.over K'
       replace L:=L.is_new Lb I
       clear Lb
       try dsimp only [lF,List.cons_append,List.nil_append] at L
       have hlx:nx0≤60000:=by have:=I.len;omega
       clear I
       generalize w14.heap.size=lx at L
       go_upto_region 20 with (fail)
       try simp only [Act.put,sA,sZ,sS]
       go_cut [24] from 126 to 134 (fun q_0 wx=>(True)∧q_0=Value.bool lt∧Loc w wx [(gP,43,opv h4 s3),(gO,43,opv h s),(gQ,30,#[.int .i64 kd,.int .u32 (X:Int),.slice A0 n0 c0]),(gH,27,#[.int .u32 (a:Int),.int .i64 p,.slice A n c,.int .i64 (ns:Int),.int .i64 wo,.int .i64 qu,.int .i64 (tn:Int)])] [iF .i64 lx Ax nx0 cx0 zn,oF h4 l3,uF B4 m d4 y4,iF .i64 lz Az nz cz zw,uF B3 m d3 y3,oF h l,uF B2 m d2 y2])
       case first =>
        have O_8:=L.at_ 1 8 rfl (v:=.int .i64 s.phase) rfl
        have O_z:=L.lt 1 rfl
        have P_3:=L.at_ 0 3 rfl (v:=.int .i64 s3.err) rfl
        have P_z:=L.lt 0 rfl
        rcases late_ways s s3 with ⟨e7,el⟩ | ⟨e7,e11,el⟩ | ⟨e7,e11,el⟩
        all_goals (
         have elt:=hlt9.out.trans el
         go_wp2
         go_meet
         exact ⟨trivial,by rw [elt],L⟩)
       case rest =>
        clear L
        obtain ⟨-,rfl,L⟩:=hcut
        clear hlt9
        have hdec:(b3=true∧lt=false)∨(b3 && !lt)=false:=by cases b3 <;> cases lt <;> simp
        rcases hdec with ⟨eb,el⟩ | hbl
        ·subst eb el
         have hlg:=hef.out rfl rfl
         have hI5:PI a M ns tn zs kd X xs (u+1) (item+1) s3 l3:=hI4.out
         replace hI5:=Lib.hid hI5
         obtain ⟨hax,hax3,hax2⟩:=hfw.out
         replace hax2:=Lib.hid hax2
         replace hax3:=Lib.hid hax3
         clear hef hno hI4 hfw
         obtain ⟨xa,hxa⟩:∃ xa,xa=tld s3 l3:=⟨_,rfl⟩
         rw [← hxa] at hlg hax hax2 hax3
         replace hxa:=Lib.hid hxa
         replace hlg:=Lib.hid hlg
         obtain ⟨A1,n1,c1,hI1,hn1,hw1,hX1,TN⟩:=rone_any (w:=w) (sh:=(ns:Int)) (wo:=wo) (qu:=qu) (tr:=(tn:Int)) (A:=A) (n:=n) (c:=c) (lo:=lo) (zs:=zs) (p:=p) item ha hM h0 (by omega) hs (by omega) hX hw hq1
         obtain ⟨k1,hk1⟩:∃ x,x=oneK kd xs item:=⟨_,rfl⟩
         obtain ⟨X1,hX1e⟩:∃ x,x=oneX kd X xs item:=⟨_,rfl⟩
         obtain ⟨x1,hx1⟩:∃ x,x=oneL kd xs item:=⟨_,rfl⟩
         simp only [← hk1,← hX1e,← hx1] at hlg hI1 hw1 hX1 TN
         clear hk1 hX1e hx1
         go_upto_region 22 with (fail)
         try simp only [Act.put,sA,sZ,sS]
         go_cut [25,26] from 140 to 151 (fun q_0 q_1 wx=>∃ (Sx:Option Addr) (nx cx:Nat),(IS .i64 0 wx Sx nx cx zn)∧q_0=Value.slice Sx nx cx∧q_1=Value.bool true∧Loc w wx [(gP,43,opv h4 s3),(gO,43,opv h s),(gQ,30,#[.int .i64 kd,.int .u32 (X:Int),.slice A0 n0 c0]),(gH,27,#[.int .u32 (a:Int),.int .i64 p,.slice A n c,.int .i64 (ns:Int),.int .i64 wo,.int .i64 qu,.int .i64 (tn:Int)])] [iF .i64 lx Ax nx0 cx0 zn,oF h4 l3,uF B4 m d4 y4])
         case first =>
          refine rg L fun v16 hHeld=>?_
          replace L:=hHeld
          refine tR 0 141 5 3 rfl rfl Tryz.underlying27 cf_sz hHeld ?_
          refine tg 1 142 (.slice Az nz cz) rfl hHeld ?_
          refine tR 2 143 5 3 rfl rfl Tryz.underlying27 cf_sz hHeld ?_
          refine tR 3 144 7 2 rfl rfl Tryz.underlying30 ak_sz hHeld ?_
          refine tg 4 145 (.int .i64 (item:Int)) rfl hHeld ?_
          refine tR 6 147 21 0 rfl rfl Tryz.underlying43 op_sz hHeld ?_
          refine rd 5 146 rfl fun K0 hK=>?_
          go_simp
          refine (TN _ L.K).mono ?_
          rintro e w17 ⟨rfl,K'⟩
          replace L:=L.over K'
          refine hK.out _ _ L ?_
          clear hHeld hK K0
          intro hHeld
          clear K'
          try simp only [Act.put,sA,sZ,sS]
          refine rd 7 148 rfl fun K0 hK=>?_
          have RTe:=(L.of_ 1 rfl).emp_
          obtain ⟨hf1,hf2,hf3,hf4,-⟩:=hlf.out
          have RT0:h4.n0≤60000:=by rw [RTe.1,hf1];exact hxl
          have RT1:h4.n1≤65536:=by rw [RTe.2.1];exact hf2
          have RT2:h4.n2≤60000:=by rw [RTe.2.2.1];exact hf3
          have RT3:h4.n3≤65000:=by rw [RTe.2.2.2];omega
          clear RTe hf1 hf2 hf3 hf4
          have RT:=PS.tol (L.of_ 1 rfl) (s:=s3) RT0 RT1 RT2 RT3
          rw [← hxa.out] at RT
          clear RT0 RT1 RT2 RT3
          go_simp
          refine (RT).mono ?_
          rintro e w18 ⟨P1,aP1,bP1,P2,aP2,bP2,rfl,I1,I2,K'⟩
          have Lb:=L.lts
          replace L:=L.over K'
          replace L:=L.is_new Lb I1
          replace L:=L.is_new Lb I2
          clear Lb
          try dsimp only [lF,List.cons_append,List.nil_append] at L
          clear I1 I2
          refine hK.out _ _ (L.less 2) ?_
          clear hHeld hK K0
          intro hHeld
          clear K'
          try simp only [Act.put,sA,sZ,sS]
          refine rd 8 149 rfl fun K0 hK=>?_
          have hb2:aP1≤65536:=by have:=(L.is_ 1 rfl).len;have h9:=hax2.out;omega
          have hb3:aP2≤60000:=by have:=(L.is_ 0 rfl).len;have h9:=hax3.out;omega
          go_simp
          refine (LG.leg ha hM (h0.below L.K) (by omega) (L.is_ 5 rfl) hlw hmy.out hX1 (hI1.below L.K) hn1 hw1 (L.is_ 1 rfl) (L.is_ 0 rfl) hb2 hb3 hax hlg.out).mono ?_
          rintro e w19 ⟨Sx,nx,cx,rfl,IX,-,K'⟩
          replace L:=L.over K'
          replace IX:IS .i64 0 _ Sx nx cx zn:=IX
          refine hK.out _ _ (L.less 2) ?_
          clear hHeld hK K0
          intro hHeld
          clear K'
          try dsimp only
          refine tz 9 140 rfl hHeld ?_
          refine tg 10 150 (.slice Sx nx cx) rfl hHeld ?_
          refine tg 11 151 (.bool true) rfl hHeld ?_
          refine tg 12 25 (.slice Sx nx cx) rfl hHeld ?_
          refine tg 13 26 (.bool true) rfl hHeld ?_
          refine wpAnyH_done (by kernel_rfl) ?_ _
          clear hHeld
          go_wp2
          replace L:=L.only (fs':=[iF .i64 lx Ax nx0 cx0 zn,oF h4 l3,uF B4 m d4 y4]) (by simp)
          go_meet
          exact ⟨_,_,_,IX,rfl,rfl,L⟩
         case rest =>
          clear L
          obtain ⟨Sx,nx,cx,IX,rfl,rfl,L⟩:=hcut
          go_wp2_with fail
          have hnx:nx≤65536:=by have:=IX.len;have h9:=(L.is_ 0 rfl).len;omega
          refine (ints_same IX (L.is_ 0 rfl) hnx).mono ?_
          rintro e w20 ⟨rfl,K'⟩
          replace L:=L.over K'
          clear IX
          go_upto_region 15 with (first | (refine lO 21 (L.bk_ 0 rfl) ?_) | (refine sO 13 167 (L.bk_ 1 rfl) rfl rfl ?_))
          generalize hal:World.setRow _ _ _=w21
          replace L:=L.rr1 hal
          clear hal
          go_wp2
          replace L:=L.only (fs':=[oF h4 l3,uF B4 m d4 y4]) (by simp)
          replace L:=L.del 0
          dsimp only [ndel] at L
          go_roundw
          case rel=>exact ⟨u+1,item+1,h4,s3,l3,B4,d4,y4,by omega,by omega,rfl,by go_num,by go_num,hI5.out,hY4.out,L⟩
          case measure=>simp [intOf];omega
        ·have hzz:zn=zw:=hno.out hbl
         have hI5:PI a M ns tn zs kd X xs (u+1) item s3 l3:=by have:=hI4.out;rw [hbl,if_neg Bool.false_ne_true,Nat.add_zero] at this;exact this
         replace hI5:=Lib.hid hI5
         clear hef hno hI4 hfw hlf
         subst hzz
         cases b3 <;> cases lt
         rotate_left 2
         ·cases hbl
         all_goals (
          clear hbl
          go_upto_region 26 with (fail)
          go_wp2_with fail
          refine (ints_same (L.is_ 3 rfl) (L.is_ 0 rfl) (by omega)).mono ?_
          rintro e w16 ⟨rfl,K'⟩
          replace L:=L.over K'
          go_upto_region 15 with (first | (refine lO 21 (L.bk_ 0 rfl) ?_) | (refine sO 13 167 (L.bk_ 1 rfl) rfl rfl ?_))
          generalize hal:World.setRow _ _ _=w17
          replace L:=L.rr1 hal
          clear hal
          go_wp2
          replace L:=L.only (fs':=[oF h4 l3,uF B4 m d4 y4]) (by simp)
          replace L:=L.del 0
          dsimp only [ndel] at L
          go_roundw
          case rel=>exact ⟨u+1,item,h4,s3,l3,B4,d4,y4,by omega,by omega,rfl,by go_num,by go_num,hI5.out,hY4.out,L⟩
          case measure=>simp [intOf];omega)
      ·have O_8:=L.at_ 0 8 rfl (v:=.int .i64 0) (by show some (Value.int .i64 s.phase)=_;rw [hp])
       have O_z:=L.lt 0 rfl
       go_wp2_with fail
       clear O_8 O_z
       go_ret
       exact ⟨rfl,L.K⟩
     ·have huk:u=k2:=by omega
      have hno:¬ ((u:Int)<(k2:Int)):=by omega
      clear hu
      go_wp2
      go_ret
      exact ⟨rfl,L.K⟩
theorem main (PS:PoolSays) (LG:LegSays) (hW:Laid w) (ha:a<4294967296) (h0:IS .i64 lo w A n c zs) (hs:IS .u32 lo2 w A0 n0 c0 xs) (hX:X<4294967296) (hw:W32 xs) (hHH:HH<256) (hE:IS .u32 lo3 w E k q es) (he:∀ x∈es,(Lit.int .u32 x).wf=true) (hE2:IS .u32 lo4 w E2 k2 q2 es2) (he2:∀ x∈es2,(Lit.int .u32 x).wf=true) :
  Calls Tryz.prog 3 #[.agg #[.int .u32 (a:Int),.int .i64 p,.slice A n c,.int .i64 sh,.int .i64 wo,.int .i64 qu,.int .i64 tr],.int .u8 (HH:Int),.agg #[.int .i64 kd,.int .u32 (X:Int),.slice A0 n0 c0],.slice E k q,.slice E2 k2 q2] w (RetBo true w):=by
 by_cases hf:n0≤100
 ·by_cases hk:k≤200
  ·by_cases hk2:k2≤200
   ·exact near PS LG hW ha h0 hs hX hw hHH hE he hE2 he2 hf hk hk2
   ·exact far2 PS LG hW ha h0 hs hX hw hHH hE he hE2 he2 hf hk (by omega)
  ·exact far1 PS LG hW ha h0 hs hX hw hHH hE he hE2 he2 hf (by omega)
 ·exact far0 PS LG hW ha h0 hs hX hw hHH hE he hE2 he2 hf
end
end Go.Proofs.YtfhefofkhmkcnaaGreatDoor.poolOne
