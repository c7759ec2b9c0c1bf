/-
 The walk of the law PoolAlone: for every configuration,home,request and doings of others it answers true.
-/
import Derived.Test.YtfhefofkhmkcnaaGreatDoorPl18

import Derived.Deep.DeepCutAuto
namespace Go.Proofs.YtfhefofkhmkcnaaGreatDoor.poolAlone
set_option maxHeartbeats 8000000
set_option maxRecDepth 100000
open Go.RowKit
set_option linter.unusedVariables false
section
variable {w:World} {lo lo2 lo3 lo4 a X HH k q k2 q2 n0 c0:Nat} {p sh wo qu tr kd:Int} {A A0 E E2:Option Addr} {n c:Nat} {zs xs es es2:List Int}
theorem far0 (PS:PoolSays) (LG:LegSays) (hW:Laid w) (ha:a<4294967296) (h0:IS .i64 lo w A n c zs) (hs:IS .u32 lo2 w A0 n0 c0 xs) (hX:X<4294967296) (hw:W32 xs) (hHH:HH<256) (hE:IS .u32 lo3 w E k q es) (he:∀ x∈es,(Lit.int .u32 x).wf=true) (hf:¬ n0≤100) :
  Calls Tryz.prog 4 #[.agg #[.int .u32 (a:Int),.int .i64 p,.slice A n c,.int .i64 sh,.int .i64 wo,.int .i64 qu,.int .i64 tr],.int .u8 (HH:Int),.agg #[.int .i64 kd,.int .u32 (X:Int),.slice A0 n0 c0],.slice E k q] w (RetBo true w):=by
 go_enter Tryz.func4,Tryz.ntmps4
 go_upto_region 1 with (fail)
 have L:=Loc.start w
 replace L:=((L).alloc #[.int .u32 (a:Int),.int .i64 p,.slice A n c,.int .i64 sh,.int .i64 wo,.int .i64 qu,.int .i64 tr] 27).alloc #[.int .i64 kd,.int .u32 (X:Int),.slice A0 n0 c0] 30
 try simp only [World.size_alloc] at L
 try dsimp only [nput] at L
 generalize ((w).alloc (.cells #[.int .u32 (a:Int),.int .i64 p,.slice A n c,.int .i64 sh,.int .i64 wo,.int .i64 qu,.int .i64 tr] 27)).alloc (.cells #[.int .i64 kd,.int .u32 (X:Int),.slice A0 n0 c0] 30)=w1 at L ⊢
 generalize w.heap.size+1=gQ at L ⊢
 generalize w.heap.size=gH at L ⊢
 go_wp2_with fail
 refine ((PS.awk (hW.below L.K))).mono ?_
 rintro e w2 ⟨rfl,K'⟩
 replace L:=L.over K'
 go_wp2_with (refine wpList_load_want (by rfl) 27 (.tmp 4) rfl gH rfl _ _ (0,0) _ (L.bk_ 1 rfl) Tryz.underlying27 rfl cf_sz ?_)
 refine (small21_any ha (h0.below L.K)).mono ?_
 rintro e w3 ⟨bo,rfl,hB,K'⟩
 replace L:=L.over K'
 rcases bo with _ | _
 ·clear hB
  go_wp2_with fail
  refine (PS.awk (hW.below L.K)).mono ?_
  rintro e w92 ⟨rfl,K'⟩
  replace L:=L.over K'
  go_wp2
  go_ret
  exact ⟨rfl,L.K⟩
 replace hB:=hB rfl
 clear hB
 go_wp2_with (refine wpList_load_want (by rfl) 30 (.tmp 6) rfl gQ rfl _ _ (0,0) _ (L.bk_ 0 rfl) Tryz.underlying30 rfl ak_sz ?_)
 refine ((few_no (hs.below L.K) hf)).mono ?_
 rintro e w4 ⟨rfl,K'⟩
 replace L:=L.over K'
 go_wp2_with fail
 refine ((PS.awk (hW.below L.K))).mono ?_
 rintro e w5 ⟨rfl,K'⟩
 replace L:=L.over K'
 go_wp2
 go_ret
 exact ⟨rfl,L.K⟩
theorem far1 (PS:PoolSays) (LG:LegSays) (hW:Laid w) (ha:a<4294967296) (h0:IS .i64 lo w A n c zs) (hs:IS .u32 lo2 w A0 n0 c0 xs) (hX:X<4294967296) (hw:W32 xs) (hHH:HH<256) (hE:IS .u32 lo3 w E k q es) (he:∀ x∈es,(Lit.int .u32 x).wf=true) (hf:n0≤100) (hk:200<k) :
  Calls Tryz.prog 4 #[.agg #[.int .u32 (a:Int),.int .i64 p,.slice A n c,.int .i64 sh,.int .i64 wo,.int .i64 qu,.int .i64 tr],.int .u8 (HH:Int),.agg #[.int .i64 kd,.int .u32 (X:Int),.slice A0 n0 c0],.slice E k q] w (RetBo true w):=by
 have f0:decide ((200:Int)<(k:Int))=true:=by simp;omega
 go_enter Tryz.func4,Tryz.ntmps4
 go_upto_region 1 with (fail)
 have L:=Loc.start w
 replace L:=((L).alloc #[.int .u32 (a:Int),.int .i64 p,.slice A n c,.int .i64 sh,.int .i64 wo,.int .i64 qu,.int .i64 tr] 27).alloc #[.int .i64 kd,.int .u32 (X:Int),.slice A0 n0 c0] 30
 try simp only [World.size_alloc] at L
 try dsimp only [nput] at L
 generalize ((w).alloc (.cells #[.int .u32 (a:Int),.int .i64 p,.slice A n c,.int .i64 sh,.int .i64 wo,.int .i64 qu,.int .i64 tr] 27)).alloc (.cells #[.int .i64 kd,.int .u32 (X:Int),.slice A0 n0 c0] 30)=w1 at L ⊢
 generalize w.heap.size+1=gQ at L ⊢
 generalize w.heap.size=gH at L ⊢
 go_wp2_with fail
 refine ((PS.awk (hW.below L.K))).mono ?_
 rintro e w2 ⟨rfl,K'⟩
 replace L:=L.over K'
 go_wp2_with (refine wpList_load_want (by rfl) 27 (.tmp 4) rfl gH rfl _ _ (0,0) _ (L.bk_ 1 rfl) Tryz.underlying27 rfl cf_sz ?_)
 refine (small21_any ha (h0.below L.K)).mono ?_
 rintro e w3 ⟨bo,rfl,hB,K'⟩
 replace L:=L.over K'
 rcases bo with _ | _
 ·clear hB
  go_wp2_with fail
  refine (PS.awk (hW.below L.K)).mono ?_
  rintro e w92 ⟨rfl,K'⟩
  replace L:=L.over K'
  go_wp2
  go_ret
  exact ⟨rfl,L.K⟩
 replace hB:=hB rfl
 clear hB
 go_wp2_with (refine wpList_load_want (by rfl) 30 (.tmp 6) rfl gQ rfl _ _ (0,0) _ (L.bk_ 0 rfl) Tryz.underlying30 rfl ak_sz ?_)
 refine ((few_yes (hs.below L.K) hf)).mono ?_
 rintro e w4 ⟨rfl,K'⟩
 replace L:=L.over K'
 go_wp2_with fail
 refine ((PS.awk (hW.below L.K))).mono ?_
 rintro e w5 ⟨rfl,K'⟩
 replace L:=L.over K'
 go_wp2
 go_ret
 exact ⟨rfl,L.K⟩
theorem near (PS:PoolSays) (LG:LegSays) (hW:Laid w) (ha:a<4294967296) (h0:IS .i64 lo w A n c zs) (hs:IS .u32 lo2 w A0 n0 c0 xs) (hX:X<4294967296) (hw:W32 xs) (hHH:HH<256) (hE:IS .u32 lo3 w E k q es) (he:∀ x∈es,(Lit.int .u32 x).wf=true) (hf:n0≤100) (hk:k≤200) :
  Calls Tryz.prog 4 #[.agg #[.int .u32 (a:Int),.int .i64 p,.slice A n c,.int .i64 sh,.int .i64 wo,.int .i64 qu,.int .i64 tr],.int .u8 (HH:Int),.agg #[.int .i64 kd,.int .u32 (X:Int),.slice A0 n0 c0],.slice E k q] w (RetBo true w):=by
 have f0:decide ((200:Int)<(k:Int))=false:=by simp;omega
 replace he:=Lib.hid he
 go_enter Tryz.func4,Tryz.ntmps4
 go_upto_region 1 with (fail)
 have L:=Loc.start w
 replace L:=((L).alloc #[.int .u32 (a:Int),.int .i64 p,.slice A n c,.int .i64 sh,.int .i64 wo,.int .i64 qu,.int .i64 tr] 27).alloc #[.int .i64 kd,.int .u32 (X:Int),.slice A0 n0 c0] 30
 try simp only [World.size_alloc] at L
 try dsimp only [nput] at L
 generalize ((w).alloc (.cells #[.int .u32 (a:Int),.int .i64 p,.slice A n c,.int .i64 sh,.int .i64 wo,.int .i64 qu,.int .i64 tr] 27)).alloc (.cells #[.int .i64 kd,.int .u32 (X:Int),.slice A0 n0 c0] 30)=w1 at L ⊢
 generalize w.heap.size+1=gQ at L ⊢
 generalize w.heap.size=gH at L ⊢
 go_wp2_with fail
 refine ((PS.awk (hW.below L.K))).mono ?_
 rintro e w2 ⟨rfl,K'⟩
 replace L:=L.over K'
 go_wp2_with (refine wpList_load_want (by rfl) 27 (.tmp 4) rfl gH rfl _ _ (0,0) _ (L.bk_ 1 rfl) Tryz.underlying27 rfl cf_sz ?_)
 refine (small21_any ha (h0.below L.K)).mono ?_
 rintro e w3 ⟨bo,rfl,hB,K'⟩
 replace L:=L.over K'
 rcases bo with _ | _
 ·clear hB
  go_wp2_with fail
  refine (PS.awk (hW.below L.K)).mono ?_
  rintro e w92 ⟨rfl,K'⟩
  replace L:=L.over K'
  go_wp2
  go_ret
  exact ⟨rfl,L.K⟩
 replace hB:=hB rfl
 obtain ⟨⟨M,ns,hC⟩,ht1,ht8⟩:=hB
 obtain ⟨tn,htn⟩:∃ tn:Nat,tr=(tn:Int):=⟨tr.toNat,by omega⟩
 subst htn
 have hshe:=hC.ns_
 subst hshe
 have hM:=hC.much
 have h1:=hC.ns1
 have h2:=hC.ns2
 have hM9:=hC.sml
 have hMp:=hM.pos
 have hMm:=hM.most
 have hn9:=hC.few
 have hfit:=hM.fits ha
 have hris:=hC.ris
 have hlv:lv M≤8∧1≤lv M∧tv M=1:=by unfold tv tq lv;omega
 obtain ⟨m,hm⟩:∃ m,m=lv M+tv M+1:=⟨_,rfl⟩
 have hm6:m≤65536∧0<m∧lv M≤m:=by omega
 obtain ⟨y0,hy0⟩:∃ y0,y0=cl (nw M zs) (lv M) (tv M) (lv M):=⟨_,rfl⟩
 have hY0:=yi_start (M:=M) (zs:=zs)
 have TW:=fun w (h:IS .i64 lo w A n c zs)=>Lib.hid (wcells_new (w:=w) (sh:=(ns:Int)) (wo:=wo) (qu:=qu) (tr:=(tn:Int)) ha hM h (by omega) hC.ris)
 rw [← hy0] at hY0
 simp only [← hy0,← hm] at TW
 replace hm:=Lib.hid hm
 clear hy0
 have TD:=fun w D B d ys (hD:D<4294967296) (hY:YI M zs ys) (h:IS .i64 lo w A n c zs) (U:US w B m d ys)=>Lib.hid (dist_any (w:=w) (p:=p) (wo:=wo) (qu:=qu) (tr:=(tn:Int)) hD hC h hY U)
 have TO:=fun w B d ys (h:IS .i64 lo w A n c zs) (U:US w B m d ys)=>Lib.hid (rof_new (w:=w) (sh:=(ns:Int)) (wo:=wo) (qu:=qu) (tr:=(tn:Int)) hM h (by omega) U hm6.2.2 hm6.1)
 have hxl:xs.length≤60000:=by have:=hs.len;omega
 have TS:=fun w lo2 h B d ys s l N item (hN:N≤60000) (hI:PI a M ns tn zs kd X xs N item s l) (hY:YI M zs ys) (h0:IS .i64 lo w A n c zs) (U:US w B m d ys) (L:Lists lo2 w h l) (hp:s.phase≠0)=>Lib.hid (PS.stp (wo:=wo) (qu:=qu) ha hM h1 h2 (by omega) hN h0 (by omega) hC.ris hxl hI hY U L hp)
 skip
 replace hC:=Lib.hid hC
 go_wp2_with (refine wpList_load_want (by rfl) 30 (.tmp 6) rfl gQ rfl _ _ (0,0) _ (L.bk_ 0 rfl) Tryz.underlying30 rfl ak_sz ?_)
 refine ((few_yes (hs.below L.K) hf)).mono ?_
 rintro e w4 ⟨rfl,K'⟩
 replace L:=L.over K'
 go_wp2_with (refine lC 4 (L.bk_ 1 rfl) ?_)
 refine ((TW _ (h0.below L.K)).out).mono ?_
 rintro e w5 ⟨gU,dU,rfl,U,hgU,K'⟩
 have Lb:=L.lts
 replace L:=L.over K'
 replace L:=L.us_av (fun i b e b' o e'=>by injection e' with e';injection e' with e1;have:=Lb i b e;omega) U
 clear Lb
 try dsimp only [lF,List.cons_append,List.nil_append] at L
 clear U hgU
 go_wp2
 go_loopw [9,10] (fun lv_ iv wr=>∃ (j:Nat) (B:Option Addr) (d:Nat) (ys:List Nat),j≤k∧lv_=.slice B m d∧iv=.int .i64 (j:Nat)∧YI M zs ys∧Loc w wr [(gQ,30,#[.int .i64 kd,.int .u32 (X:Int),.slice A0 n0 c0]),(gH,27,#[.int .u32 (a:Int),.int .i64 p,.slice A n c,.int .i64 (ns:Int),.int .i64 wo,.int .i64 qu,.int .i64 (tn:Int)])] [uF B m d ys]) (fun _ iv _=>k - (intOf iv).toNat)
 case atStart=>exact ⟨0,_,_,y0,Nat.zero_le _,rfl,rfl,hY0.1,L⟩
 case round =>
  clear L
  obtain ⟨j,B,d,ys,hj,rfl,rfl,hY,L⟩:=hrel
  by_cases hlt:j<k
  ·obtain ⟨be,oe,hEe,hbe,hce⟩:=hE.get hlt
   obtain ⟨D,hD,hD2⟩:=wf_u32 (he.out (gi es j) (gi_mem (by have:=hE.len;omega)))
   rw [hD] at hce
   subst hEe
   clear hD
   have hj2:(j:Int)<(k:Int):=by omega
   go_upto_region 7 with (fail)
   refine rg L fun v6 hHeld=>?_
   replace L:=hHeld
   refine tR 0 43 4 1 rfl rfl Tryz.underlying27 cf_sz hHeld ?_
   refine tz 1 44 rfl hHeld ?_
   refine tg 2 45 (.slice (some ⟨be,oe,none⟩) k q) rfl hHeld ?_
   refine tg 3 46 (.int .i64 (j:Int)) rfl hHeld ?_
   refine tg 4 47 (.pointer (some ⟨be,oe+j,none⟩)) rfl hHeld ?_
   refine ty 5 48 (.int .u32 (D:Int)) rfl ?_ hHeld ?_
   ·intro ww hS
    try dsimp only at hS
    have XE:=(((hS)).K.cell (p:=⟨be,oe+j,none⟩) hbe).trans hce
    go_simp
    try with_reducible rfl
    try omega
   refine rd 6 49 rfl fun K0 hK=>?_
   go_simp
   refine ((TD _ _ _ _ _ hD2 hY (h0.below L.K) (L.us_ 0 rfl)).out).mono ?_
   rintro e w7 ⟨B3,d3,y3,rfl,U,hDR,hA,K'⟩
   have Lb:=L.lts
   replace L:=L.over K'
   replace L:=L.us_av (fun i b e=>hA b.1 (Lb i b e) (L.ap_ 0 rfl hm6.2.1 i b e)) U
   clear Lb
   try dsimp only [lF,List.cons_append,List.nil_append] at L
   clear U hA
   refine hK.out _ _ (L.less 1) ?_
   clear hHeld hK K0
   intro hHeld
   clear K'
   try simp only [Act.put,sA,sZ,sS]
   refine tg 7 9 (.slice B3 m d3) rfl hHeld ?_
   refine wpAnyH_done (by kernel_rfl) ?_ _
   clear hHeld
   go_wp2
   replace L:=L.only (fs':=[uF B3 m d3 y3]) (by simp)
   go_roundw
   case rel=>exact ⟨j+1,B3,d3,y3,by omega,rfl,by go_num,(dist_leaf hMm hY hDR).1,L⟩
   case measure=>simp [intOf];omega
  have hjk:j=k:=by omega
  have hno:¬ ((j:Int)<(k:Int)):=by omega
  clear hj hlt
  have TO3:=fun w B d h U=>TO w B d ys h U
  have hmy:=os_may M zs ys
  have hlz:=len_os (uf zs ys) M
  obtain ⟨zw,hzw⟩:∃ z,z=os (uf zs ys) M:=⟨_,rfl⟩
  simp only [← hzw] at TO3 hmy hlz
  replace hzw:=Lib.hid hzw
  replace hmy:=Lib.hid hmy
  go_wp2_with (refine lC 4 (L.bk_ 1 rfl) ?_)
  refine ((TO3 _ _ _ (h0.below L.K) (L.us_ 0 rfl)).out).mono ?_
  rintro e w6 ⟨Az,nz,cz,rfl,I,K'⟩
  have Lb:=L.lts
  replace L:=L.over K'
  replace L:=L.is_new Lb I
  clear Lb
  try dsimp only [lF,List.cons_append,List.nil_append] at L
  have hlw:nz≤60000:=by have:=I.len;omega
  clear I
  generalize wr.heap.size=lz at L
  clear TO3
  obtain ⟨hd,ehd1,ehd2,hhd⟩:=ghd_of (X:=HH) h1
  have hns0:¬ ((ns:Int)=0):=by omega
  obtain rfl:k=j:=hjk.symm
  have hHw:IntKind.i64.wrap (HH:Int)=(HH:Int):=IntWalk.i64_in _ (by omega)
  have ht1n:1≤tn:=by omega
  go_upto_region 9 with (fail)
  try simp only [Act.put,sA,sZ,sS]
  go_cut [12,13] from 53 to 63 (fun q_0 q_1 wx=>∃ (gO:Nat) (h6:Hd) (s0:Sc) (l0:Ls) (bg:Bool),(l0.rqs=xs∧PBg a M ns tn zs kd X xs s0 l0 bg)∧q_0=Value.pointer (some ⟨gO,0,none⟩)∧q_1=Value.bool bg∧Loc w wx [(gO,43,opv h6 s0),(gQ,30,#[.int .i64 kd,.int .u32 (X:Int),.slice A0 n0 c0]),(gH,27,#[.int .u32 (a:Int),.int .i64 p,.slice A n c,.int .i64 (ns:Int),.int .i64 wo,.int .i64 qu,.int .i64 (tn:Int)])] [oF h6 l0,iF .i64 lz Az nz cz zw,uF B m d ys])
  case first =>
   refine rg L fun v7 hHeld=>?_
   replace L:=hHeld
   refine tR 0 54 4 1 rfl rfl Tryz.underlying27 cf_sz hHeld ?_
   refine tg 1 55 (.int .u8 (HH:Int)) rfl hHeld ?_
   refine tg 2 56 (.int .i64 (HH:Int)) rfl hHeld ?_
   refine tg 3 57 (.pointer (some ⟨gH,3,none⟩)) rfl hHeld ?_
   refine tC 4 58 1 3 rfl rfl rfl hHeld ?_
   refine tg 5 59 (.int .i64 (hd:Int)) rfl hHeld ?_
   refine tR 6 60 6 0 rfl rfl Tryz.underlying30 ak_sz hHeld ?_
   refine wpAnyH_ready (rs:=[7,11]) (by kernel_rfl) (by simp) ?_
   refine (AllReadyH.cons (o:=⟨some 61,_,_,_,_,_⟩) rfl (fun K0 hK=>?_) (AllReadyH.cons (o:=⟨some 12,_,_,_,_,_⟩) rfl (fun K0 hK=>?_) AllReadyH.nil))
   ·go_simp
    refine (PS.beg (hW.below L.K) ha hM h1 ht1n (h0.below L.K) (by omega) (by omega) (by omega) hX (hs.below L.K) (by omega) hw).mono ?_
    rintro e w8 ⟨h6,s0,l0,bg,rfl,L',hlq,hPB,K'⟩
    have Lb:=L.lts
    replace L:=L.over K'
    replace L:=L.of_new Lb L'
    clear Lb
    try dsimp only [lF,List.cons_append,List.nil_append] at L
    clear L'
    refine hK.out _ _ (L.less 1) ?_
    clear hHeld hK K0
    intro hHeld
    clear K'
    try simp only [Act.put,sA,sZ,sS]
    refine tz 8 53 rfl hHeld ?_
    refine tg 9 62 (.agg (opv h6 s0)) rfl hHeld ?_
    refine tg 10 63 (.bool bg) rfl hHeld ?_
    refine rd 11 12 rfl fun K0 hK=>?_
    go_simp
    refine hK.out _ _ ((L.other _).less 1) ?_
    clear hHeld hK K0
    intro hHeld
    replace L:=L.alloc #[.int .i64 0,.int .u32 0,.slice none 0 0,.int .i64 0,.int .u32 0,.bool false,.slice none 0 0,.slice none 0 0,.int .i64 0,.int .i64 0,.int .i64 0,.int .i64 0,.int .i64 0,.int .u64 0,.bool false,.slice none 0 0,.int .i64 0,.int .i64 0,.int .i64 0,.int .i64 0] 43
    replace L:=L.is0 (opv hd0 sc0) rfl
    generalize w8.alloc (.cells #[.int .i64 0,.int .u32 0,.slice none 0 0,.int .i64 0,.int .u32 0,.bool false,.slice none 0 0,.slice none 0 0,.int .i64 0,.int .i64 0,.int .i64 0,.int .i64 0,.int .i64 0,.int .u64 0,.bool false,.slice none 0 0,.int .i64 0,.int .i64 0,.int .i64 0,.int .i64 0] 43)=v9 at hHeld L ⊢
    generalize w8.heap.size=gO at L ⊢
    try simp only [Act.put,sA,sZ,sS]
    refine rn 12 rfl fun K0 hK=>?_
    rw [if_pos (by rfl)]
    refine wp_store_row 43 (.tmp 12) (.tmp 62) rfl gO _ rfl rfl _ _ (L.bk_ 0 rfl) op_sz rfl (opv_one _ _) ?_
    replace L:=L.row 0 rfl (opv h6 s0)
    try dsimp only [nput] at L
    refine hK.out _ _ ((L.less 1).del 0) ?_
    clear hHeld hK K0
    intro hHeld
    generalize v9.setRow gO (opv h6 s0)=v10 at hHeld L ⊢
    try simp only [Act.put]
    refine tg 13 13 (.bool bg) rfl hHeld ?_
    refine wpAnyH_done (by kernel_rfl) ?_ _
    clear hHeld
    go_wp2
    replace L:=L.only (fs':=[oF h6 l0,iF .i64 lz Az nz cz zw,uF B m d ys]) (by simp)
    go_meet
    exact ⟨_,_,_,_,_,⟨hlq,hPB⟩,rfl,rfl,L⟩
   ·go_simp
    refine hK.out _ _ (L.other _) ?_
    clear hHeld hK K0
    intro hHeld
    replace L:=L.alloc #[.int .i64 0,.int .u32 0,.slice none 0 0,.int .i64 0,.int .u32 0,.bool false,.slice none 0 0,.slice none 0 0,.int .i64 0,.int .i64 0,.int .i64 0,.int .i64 0,.int .i64 0,.int .u64 0,.bool false,.slice none 0 0,.int .i64 0,.int .i64 0,.int .i64 0,.int .i64 0] 43
    replace L:=L.is0 (opv hd0 sc0) rfl
    generalize v7.alloc (.cells #[.int .i64 0,.int .u32 0,.slice none 0 0,.int .i64 0,.int .u32 0,.bool false,.slice none 0 0,.slice none 0 0,.int .i64 0,.int .i64 0,.int .i64 0,.int .i64 0,.int .i64 0,.int .u64 0,.bool false,.slice none 0 0,.int .i64 0,.int .i64 0,.int .i64 0,.int .i64 0] 43)=v8 at hHeld L ⊢
    generalize v7.heap.size=gO at L ⊢
    try simp only [Act.put,sA,sZ,sS]
    refine rd 7 61 rfl fun K0 hK=>?_
    go_simp
    refine (PS.beg (hW.below L.K) ha hM h1 ht1n (h0.below L.K) (by omega) (by omega) (by omega) hX (hs.below L.K) (by omega) hw).mono ?_
    rintro e w9 ⟨h6,s0,l0,bg,rfl,L',hlq,hPB,K'⟩
    have Lb:=L.lts
    replace L:=L.over K'
    replace L:=L.of_new Lb L'
    clear Lb
    try dsimp only [lF,List.cons_append,List.nil_append] at L
    clear L'
    refine hK.out _ _ ((L.less 1).del 0) ?_
    clear hHeld hK K0
    intro hHeld
    clear K'
    try simp only [Act.put,sA,sZ,sS]
    refine tz 8 53 rfl hHeld ?_
    refine tg 9 62 (.agg (opv h6 s0)) rfl hHeld ?_
    refine tg 10 63 (.bool bg) rfl hHeld ?_
    refine rn 12 rfl fun K0 hK=>?_
    rw [if_pos (by rfl)]
    refine wp_store_row 43 (.tmp 12) (.tmp 62) rfl gO _ rfl rfl _ _ (L.bk_ 0 rfl) op_sz rfl (opv_one _ _) ?_
    replace L:=L.row 0 rfl (opv h6 s0)
    try dsimp only [nput] at L
    refine hK.out _ _ ((L.less 1).del 0) ?_
    clear hHeld hK K0
    intro hHeld
    generalize w9.setRow gO (opv h6 s0)=v10 at hHeld L ⊢
    try simp only [Act.put]
    refine tg 13 13 (.bool bg) rfl hHeld ?_
    refine wpAnyH_done (by kernel_rfl) ?_ _
    clear hHeld
    go_wp2
    replace L:=L.only (fs':=[oF h6 l0,iF .i64 lz Az nz cz zw,uF B m d ys]) (by simp)
    go_meet
    exact ⟨_,_,_,_,_,⟨hlq,hPB⟩,rfl,rfl,L⟩
  case rest =>
   clear L
   obtain ⟨gO,h6,s0,l0,bg,⟨hlq,hPB⟩,rfl,rfl,L⟩:=hcut
   clear ehd1 ehd2 hns0 hHw hno
   have TMo:=fun w (hW:Laid w) (hZ:IS .i64 lo w A n c zs) (hI:IS .u32 lo2 w A0 n0 c0 xs)=>Lib.hid (PS.mst (k:=kd) (wo:=wo) (qu:=qu) hW ha hM h2 (by omega:tn≤8) hZ (by omega) hX hI (by omega) hw)
   have hMOb:=most_few (a:=a) (zs:=zs) (k:=kd) (X:=X) (rq:=xs) hlv.1 hlv.2.2 h2 (by omega:tn≤8) (by have:=hs.len;omega)
   have hA0:(bg=true∧mostN a M ns tn zs kd X xs=0∧s0.phase=0∧legS a M zs zw kd X xs (anS s0 l0)=(zw,true)∧s0.err≠11∧(0≤s0.aad∧s0.aad<4294967296)∧l0.ads.length≤65536∧l0.ers.length≤60000)∨(bg=false∧PI a M ns tn zs kd X xs 0 0 s0 l0∧PA a M ns zs kd X xs ys ys (mostN a M ns tn zs kd X xs) s0 l0):=by
    unfold PBg at hPB
    rcases hPB with ⟨ebg,q1,⟨q2,_⟩,q3⟩ | ⟨ebg,q1,q2,q3,_,q4⟩
    ·have z:=leg_once (a:=a) (M:=M) (zs:=zs) (xs:=zw) (X:=X) (rq:=xs) q1
     have e1:s0.err=askE a M zs kd (X:Int) xs:=congrArg (fun x:An=>x.1) q3
     have e2:s0.aad=0:=congrArg (fun x:An=>x.2.1) q3
     have e3:l0.ads=[]:=congrArg (fun x:An=>x.2.2.2.1) q3
     have e4:l0.ers=[]:=congrArg (fun x:An=>x.2.2.2.2) q3
     have hrg:=askE_rng (a:=a) (M:=M) (zs:=zs) kd (X:Int) xs
     refine .inl ⟨ebg,by unfold mostN;rw [if_pos q1],q2,by rw [q3];exact z,by omega,by omega,by rw [e3];exact Nat.zero_le _,by rw [e4];exact Nat.zero_le _⟩
    ·exact .inr ⟨ebg,q3,q4 ys⟩
   have hask:kd≠7∧askE a M zs kd (X:Int) xs=0∨bg=true:=by
    unfold PBg at hPB
    rcases hPB with ⟨ebg,_⟩ | ⟨ebg,q1,q2,_⟩
    ·exact .inr ebg
    ·exact .inl ⟨q2,q1⟩
   clear hPB
   obtain ⟨MO,hMO⟩:∃ x,x=mostN a M ns tn zs kd X xs:=⟨_,rfl⟩
   simp only [← hMO] at TMo hMOb hA0
   clear hMO hlq
   go_wp2
   go_loopw [9,14] (fun lv_ iv wr=>∃ (u:Nat) (h:Hd) (s:Sc) (l:Ls) (B2:Option Addr) (d2:Nat) (y2:List Nat),u≤MO∧lv_=.slice B2 m d2∧iv=.int .i64 (u:Nat)∧((bg=true∧MO=0∧y2=ys∧s.phase=0∧legS a M zs zw kd X xs (anS s l)=(zw,true)∧s.err≠11∧(0≤s.aad∧s.aad<4294967296)∧l.ads.length≤65536∧l.ers.length≤60000)∨(bg=false∧∃ item,PI a M ns tn zs kd X xs u item s l∧PA a M ns zs kd X xs ys y2 (MO - u) s l))∧YI M zs y2∧Loc w wr [(gO,43,opv h s),(gQ,30,#[.int .i64 kd,.int .u32 (X:Int),.slice A0 n0 c0]),(gH,27,#[.int .u32 (a:Int),.int .i64 p,.slice A n c,.int .i64 (ns:Int),.int .i64 wo,.int .i64 qu,.int .i64 (tn:Int)])] [oF h l,uF B2 m d2 y2,iF .i64 lz Az nz cz zw]) (fun _ iv _=>MO - (intOf iv).toNat)
   case atStart =>
    refine ⟨0,h6,s0,l0,B,d,ys,Nat.zero_le _,rfl,rfl,?_,hY,L.only (by simp)⟩
    rcases hA0 with ⟨q0,q1,q2,q3,q4,q5⟩ | ⟨q0,q1,q2⟩
    ·exact .inl ⟨q0,q1,rfl,q2,q3,q4,q5⟩
    ·exact .inr ⟨q0,0,q1,q2⟩
   case round =>
    clear L hA0
    obtain ⟨u,h,s,l,B2,d2,y2,hu,rfl,rfl,hInv,hY2,L⟩:=hrel
    rcases hInv with ⟨ebg,q1,q2,q3,q4,q5,q6,q7,q8⟩ | ⟨ebg,item,hPI,hPA⟩
    ·have hu0:u=0:=by omega
     subst hu0
     subst q1 q2
     clear ebg
     have hfin:legS a M zs zw kd X xs (anS s l)=(os (uf zs y2) M,true):=by rw [← hzw.out];exact q4
     have hz0:=q3
     have hen:=q5
     have hax:=q6
     have hl1:=q7
     have hl2:=q8
     clear q3 q4 q5 q6 q7 q8
     have TO4:=fun w B d h U=>TO w B d y2 h U
     have hln:=len_os (uf zs y2) M
     obtain ⟨zn,hzn⟩:∃ z,z=os (uf zs y2) M:=⟨_,rfl⟩
     simp only [← hzn] at TO4 hfin hln
     have hen2:(s.err != 11)=true:=by simp [hen]
     replace hfin:=Lib.hid hfin
     clear hzn hen hY2 TS TO hzw hask
     go_wp2_with (first | (refine lC 4 (L.bk_ 2 rfl) ?_) | (refine wpList_load_row rfl 30 (.tmp 6) rfl gQ rfl _ _ (0,0) _ (L.bk_ 1 rfl) Tryz.underlying30 rfl ak_sz ?_))
     refine ((TMo _ (hW.below L.K) (h0.below L.K) (hs.below L.K)).out).mono ?_
     rintro e w11 ⟨rfl,K'⟩
     replace L:=L.over K'
     have O_3:=L.at_ 0 3 rfl (v:=.int .i64 s.err) rfl
     have O_4:=L.at_ 0 4 rfl (v:=.int .u32 s.aad) rfl
     have O_5:=L.at_ 0 5 rfl (v:=.bool s.used) rfl
     have O_6:=L.at_ 0 6 rfl (v:=.slice h.A1 h.n1 h.c1) rfl
     have O_7:=L.at_ 0 7 rfl (v:=.slice h.A2 h.n2 h.c2) rfl
     have O_z:=L.lt 0 rfl
     go_wp2_with (first | (refine lC 4 (L.bk_ 2 rfl) ?_) | (refine wpList_load_row rfl 30 (.tmp 6) rfl gQ rfl _ _ (0,0) _ (L.bk_ 1 rfl) Tryz.underlying30 rfl ak_sz ?_))
     have hE9:=L.of_ 0 rfl
     have hb2:h.n1≤65536:=by have:=hE9.emp_;omega
     have hb3:h.n2≤60000:=by have:=hE9.emp_;omega
     refine (LG.leg (x:=anS s l) ha hM (h0.below L.K) (by omega) (L.is_ 2 rfl) hlw hmy.out hX (hs.below L.K) (by omega) hw hE9.i1 hE9.i2 hb2 hb3 hax hfin.out).mono ?_
     rintro e w12 ⟨Sx,nx,cx,rfl,IX,-,K'⟩
     clear O_3 O_4 O_5 O_6 O_7 O_z
     replace L:=L.over K'
     replace IX:IS .i64 0 _ Sx nx cx zn:=IX
     clear hE9 hb2 hb3
     have O_8:=L.at_ 0 8 rfl (v:=.int .i64 0) (by show some (Value.int .i64 s.phase)=_;rw [hz0])
     have O_z:=L.lt 0 rfl
     go_wp2_with (refine wpList_load_want (by rfl) 27 (.tmp 4) rfl gH rfl _ _ (0,0) _ (L.bk_ 2 rfl) Tryz.underlying27 rfl cf_sz ?_)
     refine ((TO4 _ _ _ (h0.below L.K) (L.us_ 1 rfl)).out).mono ?_
     rintro e w13 ⟨Ax,nx0,cx0,rfl,I,K'⟩
     clear O_8 O_z
     have Lb:=L.lts
     replace L:=L.over K'
     replace L:=L.is_new Lb I
     clear Lb
     try dsimp only [lF,List.cons_append,List.nil_append] at L
     replace IX:=IX.below K'
     have hlx:nx≤65536:=by have:=IX.len;have:=I.len;omega
     clear I
     generalize w12.heap.size=lx at L
     go_wp2_with fail
     refine (ints_same IX (L.is_ 0 rfl) hlx).mono ?_
     rintro e w14 ⟨rfl,K'⟩
     replace L:=L.over K'
     clear IX
     have O_3:=L.at_ 0 3 rfl (v:=.int .i64 s.err) rfl
     have O_z:=L.lt 0 rfl
     go_wp2_with fail
     clear O_3 O_z
     go_ret
     exact ⟨rfl,L.K⟩
    ·have hask2:askE a M zs kd (X:Int) xs=0:=by rcases hask with h | h;exact h.2;rw [ebg] at h;cases h
     replace ebg:=Lib.hid ebg
     have hlf:=hPI.few hMm hfit hxl
     by_cases hlt:u<MO
     ·have hu2:(u:Int)<(MO:Int):=by omega
      by_cases hp:s.phase=0
      rotate_left
      ·have hp1:(s.phase != 0)=true:=by simp [hp]
       have TK:=fun w lo2 h B d h0 U L=>TS w lo2 h B d y2 s l u item (by omega) hPI hY2 h0 U L hp
       go_wp2_with (first | (refine lC 4 (L.bk_ 2 rfl) ?_) | (refine wpList_load_row rfl 30 (.tmp 6) rfl gQ rfl _ _ (0,0) _ (L.bk_ 1 rfl) Tryz.underlying30 rfl ak_sz ?_))
       refine ((TMo _ (hW.below L.K) (h0.below L.K) (hs.below L.K)).out).mono ?_
       rintro e w11 ⟨rfl,K'⟩
       replace L:=L.over K'
       have O_8:=L.at_ 0 8 rfl (v:=.int .i64 s.phase) rfl
       have O_z:=L.lt 0 rfl
       go_wp2_with (first | (refine lC 4 (L.bk_ 2 rfl) ?_) | (refine lO 12 (L.bk_ 0 rfl) ?_))
       refine ((TK _ _ _ _ _ (h0.below L.K) (L.us_ 1 rfl) (L.of_ 0 rfl)).out).mono ?_
       rintro e w12 ⟨h4,B4,d4,s3,l3,y4,b3,rfl,U,L',hA,K',hPO⟩
       clear O_8 O_z
       have Lb:=L.lts
       replace L:=L.over K'
       replace L:=L.us_av (fun i b e=>hA b.1 (Lb i b e) (L.ap_ 1 rfl hm6.2.1 i b e)) U
       replace L:=L.of_new Lb L'
       clear Lb
       try dsimp only [lF,List.cons_append,List.nil_append] at L
       clear U L' hA
       obtain ⟨hI4,hY4,-,-,hal⟩:=hPO
       have hA4:=(hal ys _ hp hPA).2
       rw [show MO - u - 1=MO - (u+1) by omega] at hA4
       clear hal hPI hPA hlf TK
       replace hI4:=Lib.hid hI4
       replace hY4:=Lib.hid hY4
       replace hA4:=Lib.hid hA4
       go_upto_region 12 with (refine sO 12 82 (L.bk_ 0 rfl) rfl rfl ?_)
       generalize hal:World.setRow _ _ _=w13
       replace L:=L.rr0 hal
       clear hal
       go_wp2
       replace L:=L.only (fs':=[oF h4 l3,uF B4 m d4 y4,iF .i64 lz Az nz cz zw]) (by simp)
       go_roundw
       case rel=>exact ⟨u+1,h4,s3,l3,B4,d4,y4,by omega,rfl,by go_num,.inr ⟨ebg.out,_,hI4.out,hA4.out⟩,hY4.out,L⟩
       case measure=>simp [intOf];omega
      ·have hz0:=hp
       have hend:=pa_end hfit hY hask2 hPI hPA hz0
       have hfin:legS a M zs zw kd X xs (anS s l)=(os (uf zs y2) M,true):=by rw [hzw.out];exact hend.1
       have hen:=hend.2
       have hax:=hlf.2.2.2.2.1
       have hl1:=hlf.2.1
       have hl2:=hlf.2.2.1
       clear hend hlf hPI hPA
       have TO4:=fun w B d h U=>TO w B d y2 h U
       have hln:=len_os (uf zs y2) M
       obtain ⟨zn,hzn⟩:∃ z,z=os (uf zs y2) M:=⟨_,rfl⟩
       simp only [← hzn] at TO4 hfin hln
       have hen2:(s.err != 11)=true:=by simp [hen]
       replace hfin:=Lib.hid hfin
       clear hzn hen hY2 TS TO hzw hask
       go_wp2_with (first | (refine lC 4 (L.bk_ 2 rfl) ?_) | (refine wpList_load_row rfl 30 (.tmp 6) rfl gQ rfl _ _ (0,0) _ (L.bk_ 1 rfl) Tryz.underlying30 rfl ak_sz ?_))
       refine ((TMo _ (hW.below L.K) (h0.below L.K) (hs.below L.K)).out).mono ?_
       rintro e w11 ⟨rfl,K'⟩
       replace L:=L.over K'
       have O_3:=L.at_ 0 3 rfl (v:=.int .i64 s.err) rfl
       have O_4:=L.at_ 0 4 rfl (v:=.int .u32 s.aad) rfl
       have O_5:=L.at_ 0 5 rfl (v:=.bool s.used) rfl
       have O_6:=L.at_ 0 6 rfl (v:=.slice h.A1 h.n1 h.c1) rfl
       have O_7:=L.at_ 0 7 rfl (v:=.slice h.A2 h.n2 h.c2) rfl
       have O_z:=L.lt 0 rfl
       have O_8:=L.at_ 0 8 rfl (v:=.int .i64 0) (by show some (Value.int .i64 s.phase)=_;rw [hp])
       have O_z:=L.lt 0 rfl
       go_wp2_with (first | (refine lC 4 (L.bk_ 2 rfl) ?_) | (refine wpList_load_row rfl 30 (.tmp 6) rfl gQ rfl _ _ (0,0) _ (L.bk_ 1 rfl) Tryz.underlying30 rfl ak_sz ?_))
       have hE9:=L.of_ 0 rfl
       have hb2:h.n1≤65536:=by have:=hE9.emp_;omega
       have hb3:h.n2≤60000:=by have:=hE9.emp_;omega
       refine (LG.leg (x:=anS s l) ha hM (h0.below L.K) (by omega) (L.is_ 2 rfl) hlw hmy.out hX (hs.below L.K) (by omega) hw hE9.i1 hE9.i2 hb2 hb3 hax hfin.out).mono ?_
       rintro e w12 ⟨Sx,nx,cx,rfl,IX,-,K'⟩
       clear O_3 O_4 O_5 O_6 O_7 O_z O_8
       replace L:=L.over K'
       replace IX:IS .i64 0 _ Sx nx cx zn:=IX
       clear hE9 hb2 hb3
       have O_8:=L.at_ 0 8 rfl (v:=.int .i64 0) (by show some (Value.int .i64 s.phase)=_;rw [hz0])
       have O_z:=L.lt 0 rfl
       go_wp2_with (refine wpList_load_want (by rfl) 27 (.tmp 4) rfl gH rfl _ _ (0,0) _ (L.bk_ 2 rfl) Tryz.underlying27 rfl cf_sz ?_)
       refine ((TO4 _ _ _ (h0.below L.K) (L.us_ 1 rfl)).out).mono ?_
       rintro e w13 ⟨Ax,nx0,cx0,rfl,I,K'⟩
       clear O_8 O_z
       have Lb:=L.lts
       replace L:=L.over K'
       replace L:=L.is_new Lb I
       clear Lb
       try dsimp only [lF,List.cons_append,List.nil_append] at L
       replace IX:=IX.below K'
       have hlx:nx≤65536:=by have:=IX.len;have:=I.len;omega
       clear I
       generalize w12.heap.size=lx at L
       go_wp2_with fail
       refine (ints_same IX (L.is_ 0 rfl) hlx).mono ?_
       rintro e w14 ⟨rfl,K'⟩
       replace L:=L.over K'
       clear IX
       have O_3:=L.at_ 0 3 rfl (v:=.int .i64 s.err) rfl
       have O_z:=L.lt 0 rfl
       go_wp2_with fail
       clear O_3 O_z
       go_ret
       exact ⟨rfl,L.K⟩
     ·have huk:u=MO:=by omega
      have hz0:=pa_stop hMm hMp h1 hfit hY2 hPI (by rw [huk,Nat.sub_self] at hPA;exact hPA)
      have hnu:¬ ((u:Int)<(MO:Int)):=by omega
      clear huk hlt
      have hend:=pa_end hfit hY hask2 hPI hPA hz0
      have hfin:legS a M zs zw kd X xs (anS s l)=(os (uf zs y2) M,true):=by rw [hzw.out];exact hend.1
      have hen:=hend.2
      have hax:=hlf.2.2.2.2.1
      have hl1:=hlf.2.1
      have hl2:=hlf.2.2.1
      clear hend hlf hPI hPA
      have TO4:=fun w B d h U=>TO w B d y2 h U
      have hln:=len_os (uf zs y2) M
      obtain ⟨zn,hzn⟩:∃ z,z=os (uf zs y2) M:=⟨_,rfl⟩
      simp only [← hzn] at TO4 hfin hln
      have hen2:(s.err != 11)=true:=by simp [hen]
      replace hfin:=Lib.hid hfin
      clear hzn hen hY2 TS TO hzw hask
      go_wp2_with (first | (refine lC 4 (L.bk_ 2 rfl) ?_) | (refine wpList_load_row rfl 30 (.tmp 6) rfl gQ rfl _ _ (0,0) _ (L.bk_ 1 rfl) Tryz.underlying30 rfl ak_sz ?_))
      refine ((TMo _ (hW.below L.K) (h0.below L.K) (hs.below L.K)).out).mono ?_
      rintro e w11 ⟨rfl,K'⟩
      replace L:=L.over K'
      have O_3:=L.at_ 0 3 rfl (v:=.int .i64 s.err) rfl
      have O_4:=L.at_ 0 4 rfl (v:=.int .u32 s.aad) rfl
      have O_5:=L.at_ 0 5 rfl (v:=.bool s.used) rfl
      have O_6:=L.at_ 0 6 rfl (v:=.slice h.A1 h.n1 h.c1) rfl
      have O_7:=L.at_ 0 7 rfl (v:=.slice h.A2 h.n2 h.c2) rfl
      have O_z:=L.lt 0 rfl
      go_wp2_with (first | (refine lC 4 (L.bk_ 2 rfl) ?_) | (refine wpList_load_row rfl 30 (.tmp 6) rfl gQ rfl _ _ (0,0) _ (L.bk_ 1 rfl) Tryz.underlying30 rfl ak_sz ?_))
      have hE9:=L.of_ 0 rfl
      have hb2:h.n1≤65536:=by have:=hE9.emp_;omega
      have hb3:h.n2≤60000:=by have:=hE9.emp_;omega
      refine (LG.leg (x:=anS s l) ha hM (h0.below L.K) (by omega) (L.is_ 2 rfl) hlw hmy.out hX (hs.below L.K) (by omega) hw hE9.i1 hE9.i2 hb2 hb3 hax hfin.out).mono ?_
      rintro e w12 ⟨Sx,nx,cx,rfl,IX,-,K'⟩
      clear O_3 O_4 O_5 O_6 O_7 O_z
      replace L:=L.over K'
      replace IX:IS .i64 0 _ Sx nx cx zn:=IX
      clear hE9 hb2 hb3
      have O_8:=L.at_ 0 8 rfl (v:=.int .i64 0) (by show some (Value.int .i64 s.phase)=_;rw [hz0])
      have O_z:=L.lt 0 rfl
      go_wp2_with (refine wpList_load_want (by rfl) 27 (.tmp 4) rfl gH rfl _ _ (0,0) _ (L.bk_ 2 rfl) Tryz.underlying27 rfl cf_sz ?_)
      refine ((TO4 _ _ _ (h0.below L.K) (L.us_ 1 rfl)).out).mono ?_
      rintro e w13 ⟨Ax,nx0,cx0,rfl,I,K'⟩
      clear O_8 O_z
      have Lb:=L.lts
      replace L:=L.over K'
      replace L:=L.is_new Lb I
      clear Lb
      try dsimp only [lF,List.cons_append,List.nil_append] at L
      replace IX:=IX.below K'
      have hlx:nx≤65536:=by have:=IX.len;have:=I.len;omega
      clear I
      generalize w12.heap.size=lx at L
      go_wp2_with fail
      refine (ints_same IX (L.is_ 0 rfl) hlx).mono ?_
      rintro e w14 ⟨rfl,K'⟩
      replace L:=L.over K'
      clear IX
      have O_3:=L.at_ 0 3 rfl (v:=.int .i64 s.err) rfl
      have O_z:=L.lt 0 rfl
      go_wp2_with fail
      clear O_3 O_z
      go_ret
      exact ⟨rfl,L.K⟩
theorem main (PS:PoolSays) (LG:LegSays) (hW:Laid w) (ha:a<4294967296) (h0:IS .i64 lo w A n c zs) (hs:IS .u32 lo2 w A0 n0 c0 xs) (hX:X<4294967296) (hw:W32 xs) (hHH:HH<256) (hE:IS .u32 lo3 w E k q es) (he:∀ x∈es,(Lit.int .u32 x).wf=true) :
  Calls Tryz.prog 4 #[.agg #[.int .u32 (a:Int),.int .i64 p,.slice A n c,.int .i64 sh,.int .i64 wo,.int .i64 qu,.int .i64 tr],.int .u8 (HH:Int),.agg #[.int .i64 kd,.int .u32 (X:Int),.slice A0 n0 c0],.slice E k q] w (RetBo true w):=by
 by_cases hf:n0≤100
 ·by_cases hk:k≤200
  ·exact near PS LG hW ha h0 hs hX hw hHH hE he hf hk
  ·exact far1 PS LG hW ha h0 hs hX hw hHH hE he hf (by omega)
 ·exact far0 PS LG hW ha h0 hs hX hw hHH hE he hf
end
end Go.Proofs.YtfhefofkhmkcnaaGreatDoor.poolAlone
