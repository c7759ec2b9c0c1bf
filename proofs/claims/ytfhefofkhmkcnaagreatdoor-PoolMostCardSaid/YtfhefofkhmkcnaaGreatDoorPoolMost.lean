/-
 The walk of the law PoolMost: for every configuration,home,request and doings of others it answers true.
-/
import Derived.Test.YtfhefofkhmkcnaaGreatDoorPl18

import Derived.Deep.DeepCutAuto
namespace Go.Proofs.YtfhefofkhmkcnaaGreatDoor.poolMost
set_option maxHeartbeats 8000000
set_option maxRecDepth 100000
open Go.RowKit
set_option linter.unusedVariables false
section
variable {M ns tn:Nat} {w:World} {lo lo2 lo3 lo4 a X HH k q k2 q2 n0 c0:Nat} {p sh wo qu tr kd:Int} {A A0 E E2:Option Addr} {n c:Nat} {zs xs es es2:List Int}
theorem far0 (PS:PoolSays) (hW:Laid w) (ha:a<4294967296) (h0:IS .i64 lo w A n c zs) (hs:IS .u32 lo2 w A0 n0 c0 xs) (hX:X<4294967296) (hw:W32 xs) (hf:¬ n0≤100) :
  Calls Tryz.prog 5 #[.agg #[.int .u32 (a:Int),.int .i64 p,.slice A n c,.int .i64 sh,.int .i64 wo,.int .i64 qu,.int .i64 tr],.agg #[.int .i64 kd,.int .u32 (X:Int),.slice A0 n0 c0]] w (RetBo true w):=by
 go_enter Tryz.func5,Tryz.ntmps5
 go_upto_region 1 with (fail)
 have L:=Loc.start w
 replace L:=((L).alloc #[.int .u32 (a:Int),.int .i64 p,.slice A n c,.int .i64 sh,.int .i64 wo,.int .i64 qu,.int .i64 tr] 27).alloc #[.int .i64 kd,.int .u32 (X:Int),.slice A0 n0 c0] 30
 try simp only [World.size_alloc] at L
 try dsimp only [nput] at L
 generalize ((w).alloc (.cells #[.int .u32 (a:Int),.int .i64 p,.slice A n c,.int .i64 sh,.int .i64 wo,.int .i64 qu,.int .i64 tr] 27)).alloc (.cells #[.int .i64 kd,.int .u32 (X:Int),.slice A0 n0 c0] 30)=w1 at L ⊢
 generalize w.heap.size+1=gQ at L ⊢
 generalize w.heap.size=gH at L ⊢
 go_wp2_with fail
 refine ((PS.awk (hW.below L.K))).mono ?_
 rintro e w2 ⟨rfl,K'⟩
 replace L:=L.over K'
 go_wp2_with (refine wpList_load_want (by rfl) 27 (.tmp 2) rfl gH rfl _ _ (0,0) _ (L.bk_ 1 rfl) Tryz.underlying27 rfl cf_sz ?_)
 refine (small21_any ha (h0.below L.K)).mono ?_
 rintro e w3 ⟨bo,rfl,hB,K'⟩
 replace L:=L.over K'
 rcases bo with _ | _
 ·clear hB
  go_wp2_with fail
  refine (PS.awk (hW.below L.K)).mono ?_
  rintro e w92 ⟨rfl,K'⟩
  replace L:=L.over K'
  go_wp2
  go_ret
  exact ⟨rfl,L.K⟩
 replace hB:=hB rfl
 clear hB
 go_wp2_with (refine wpList_load_want (by rfl) 30 (.tmp 3) rfl gQ rfl _ _ (0,0) _ (L.bk_ 0 rfl) Tryz.underlying30 rfl ak_sz ?_)
 refine ((few_no (hs.below L.K) hf)).mono ?_
 rintro e w4 ⟨rfl,K'⟩
 replace L:=L.over K'
 go_wp2_with fail
 refine ((PS.awk (hW.below L.K))).mono ?_
 rintro e w5 ⟨rfl,K'⟩
 replace L:=L.over K'
 go_wp2
 go_ret
 exact ⟨rfl,L.K⟩
theorem mo_a (PS:PoolSays) (hW:Laid w) (ha:a<4294967296) (h0:IS .i64 lo w A n c zs) (hs:IS .u32 lo2 w A0 n0 c0 xs) (hX:X<4294967296) (hw:W32 xs) (hM:Much a p M) (h1:1≤ns) (h2:ns≤64) (ht1:1≤tn) (ht8:tn≤8) (hn9:n≤64) (hM9:M≤256) (hf:n0≤100) (he:askE a M zs kd (X:Int) xs≠0) (h4:kd=4) :
  Calls Tryz.prog 5 #[.agg #[.int .u32 (a:Int),.int .i64 p,.slice A n c,.int .i64 (ns:Int),.int .i64 wo,.int .i64 qu,.int .i64 (tn:Int)],.agg #[.int .i64 kd,.int .u32 (X:Int),.slice A0 n0 c0]] w (RetBo true w):=by
 have TMo:=fun w (hW:Laid w) (hZ:IS .i64 lo w A n c zs) (hI:IS .u32 lo2 w A0 n0 c0 xs)=>Lib.hid (PS.mst (k:=kd) (wo:=wo) (qu:=qu) hW ha hM h2 ht8 hZ (by omega) hX hI (by omega) hw)
 have TC:=fun w (h0:IS .i64 lo w A n c zs) (hs:IS .u32 lo2 w A0 n0 c0 xs)=>Lib.hid (rcheck_any (w:=w) (sh:=(ns:Int)) (wo:=wo) (qu:=qu) (tr:=(tn:Int)) (k:=kd) hM h0 (by omega) hs (by omega) hX hw)
 have TM1:=fun w x (hx:x<4294967296) (hW:Laid w) (hZ:IS .i64 lo w A n c zs)=>Lib.hid (PS.mst (k:=3) (wo:=wo) (qu:=qu) (X:=x) (rq:=[]) hW ha hM h2 ht8 hZ (by omega) hx (IS.none_ .u32 0 w) (Nat.zero_le _) (by intro y hy;cases hy))
 have TM2:=fun w n2 t2 (h22:n2≤64) (ht2:t2≤8) (hW:Laid w) (hZ:IS .i64 lo w A n c zs) (hI:IS .u32 lo2 w A0 n0 c0 xs)=>Lib.hid (PS.mst (ns:=n2) (tr:=t2) (k:=kd) (wo:=wo) (qu:=qu) hW ha hM h22 ht2 hZ (by omega) hX hI (by omega) hw)
 have hMO:mostN a M ns tn zs kd X xs=0:=by unfold mostN;rw [if_pos (.inl he)]
 have hup:=most_up (a:=a) (zs:=zs) (k:=kd) (X:=X) (rq:=xs) (M:=M) (ns:=ns) (tr:=tn) h2 ht8
 have hone:∀ i,mostN a M ns tn zs 3 (gi xs i).toNat []≤6:=fun i=>most_one
 have hmo9:mostN a M ns tn zs kd X xs≤1000:=most_few (by have:=hM.pos;unfold lv;omega) (by unfold tv tq lv;have:=hM.pos;omega) h2 ht8 (by have:=hs.len;omega)
 obtain ⟨MO,hMOe⟩:∃ x,x=mostN a M ns tn zs kd X xs:=⟨_,rfl⟩
 simp only [← hMOe] at TMo hMO hup hmo9
 subst hMO
 obtain ⟨e9,he9⟩:∃ e,e=askE a M zs kd (X:Int) xs:=⟨_,rfl⟩
 rw [← he9] at he
 simp only [← he9] at TC
 have ee:(e9 != 0)=true:=by simp [he]
 clear he9 he
 subst h4
 replace hone:=Lib.hid hone
 replace hup:=Lib.hid hup
 clear hMOe
 go_enter Tryz.func5,Tryz.ntmps5
 go_upto_region 1 with (fail)
 have L:=Loc.start w
 replace L:=((L).alloc #[.int .u32 (a:Int),.int .i64 p,.slice A n c,.int .i64 (ns:Int),.int .i64 wo,.int .i64 qu,.int .i64 (tn:Int)] 27).alloc #[.int .i64 4,.int .u32 (X:Int),.slice A0 n0 c0] 30
 try simp only [World.size_alloc] at L
 try dsimp only [nput] at L
 generalize ((w).alloc (.cells #[.int .u32 (a:Int),.int .i64 p,.slice A n c,.int .i64 (ns:Int),.int .i64 wo,.int .i64 qu,.int .i64 (tn:Int)] 27)).alloc (.cells #[.int .i64 4,.int .u32 (X:Int),.slice A0 n0 c0] 30)=w1 at L ⊢
 generalize w.heap.size+1=gQ at L ⊢
 generalize w.heap.size=gH at L ⊢
 go_wp2_with fail
 refine ((PS.awk (hW.below L.K))).mono ?_
 rintro e w2 ⟨rfl,K'⟩
 replace L:=L.over K'
 go_wp2_with (refine wpList_load_want (by rfl) 27 (.tmp 2) rfl gH rfl _ _ (0,0) _ (L.bk_ 1 rfl) Tryz.underlying27 rfl cf_sz ?_)
 refine (small21_any ha (h0.below L.K)).mono ?_
 rintro e w3 ⟨bo,rfl,-,K'⟩
 replace L:=L.over K'
 rcases bo with _ | _
 ·go_wp2_with fail
  refine (PS.awk (hW.below L.K)).mono ?_
  rintro e w90 ⟨rfl,K'⟩
  replace L:=L.over K'
  go_wp2
  go_ret
  exact ⟨rfl,L.K⟩
 go_wp2_with (refine wpList_load_want (by rfl) 30 (.tmp 3) rfl gQ rfl _ _ (0,0) _ (L.bk_ 0 rfl) Tryz.underlying30 rfl ak_sz ?_)
 refine ((few_yes (hs.below L.K) hf)).mono ?_
 rintro e w4 ⟨rfl,K'⟩
 replace L:=L.over K'
 go_wp2_with (first | (refine lC 2 (L.bk_ 1 rfl) ?_) | (refine wpList_load_row rfl 30 (.tmp 3) rfl gQ rfl _ _ (0,0) _ (L.bk_ 0 rfl) Tryz.underlying30 rfl ak_sz ?_))
 refine ((TMo _ (hW.below L.K) (h0.below L.K) (hs.below L.K)).out).mono ?_
 rintro e w5 ⟨rfl,K'⟩
 replace L:=L.over K'
 go_wp2_with (first | (refine lC 2 (L.bk_ 1 rfl) ?_) | (refine wpList_load_row rfl 30 (.tmp 3) rfl gQ rfl _ _ (0,0) _ (L.bk_ 0 rfl) Tryz.underlying30 rfl ak_sz ?_))
 refine ((TC _ (h0.below L.K) (hs.below L.K)).out).mono ?_
 rintro e w6 ⟨rfl,K'⟩
 replace L:=L.over K'
 go_wp2
 go_loopw [7,8] (fun sv iv wr=>∃ (u sm:Nat),u≤n0∧sm≤6*u∧True∧sv=.int .i64 (sm:Nat)∧iv=.int .i64 (u:Nat)∧Loc w wr [(gQ,30,#[.int .i64 4,.int .u32 (X:Int),.slice A0 n0 c0]),(gH,27,#[.int .u32 (a:Int),.int .i64 p,.slice A n c,.int .i64 (ns:Int),.int .i64 wo,.int .i64 qu,.int .i64 (tn:Int)])] []) (fun _ iv _=>n0 - (intOf iv).toNat)
 case atStart=>exact ⟨0,0,Nat.zero_le _,Nat.le_refl _,trivial,rfl,rfl,L⟩
 case round =>
  clear L
  obtain ⟨u,sm,hu,hsm,hs6,rfl,rfl,L⟩:=hrel
  replace hs6:=Lib.hid hs6
  by_cases hlt:u<n0
  ·obtain ⟨be,oe,hEe,hbe,hce⟩:=hs.get hlt
   have hxu:u<xs.length:=by have:=hs.len;omega
   have hb:=hw _ (gi_mem hxu)
   obtain ⟨x9,hx9⟩:∃ x:Nat,gi xs u=(x:Int):=⟨(gi xs u).toNat,by omega⟩
   have hq9:=hone.out u
   rw [hx9,Int.toNat_natCast] at hq9
   rw [hx9] at hce hb
   have hu2:(u:Int)<(n0:Int):=by omega
   have TM3:=fun w hW hZ=>TM1 w x9 (by omega) hW hZ
   obtain ⟨q9,hq0⟩:∃ q,q=mostN a M ns tn zs 3 x9 []:=⟨_,rfl⟩
   simp only [← hq0] at TM3 hq9
   clear hq0 hx9 hb TM1
   have e1:IntKind.i64.wrap ((sm:Int)+(q9:Int))=(sm:Int)+(q9:Int):=IntWalk.i64_in _ (by have:=hs.len;omega)
   replace hq9:=Lib.hid hq9
   subst hEe
   have Q_2:=L.at_ 0 2 rfl (v:=.slice (some ⟨be,oe,none⟩) n0 c0) rfl
   have Q_0:=L.at_ 0 0 rfl (v:=.int .i64 4) rfl
   have Q_z:=L.lt 0 rfl
   go_upto_region 11 with fail
   clear Q_2 Q_0 Q_z
   refine rg L fun v7 hHeld=>?_
   replace L:=hHeld
   refine tg 0 55 (.int .i64 (sm:Int)) rfl hHeld ?_
   refine tR 1 56 2 1 rfl rfl Tryz.underlying27 cf_sz hHeld ?_
   refine tg 2 57 (.pointer (some ⟨gQ,2,none⟩)) rfl hHeld ?_
   refine tC 3 58 0 2 rfl rfl rfl hHeld ?_
   refine tg 4 59 (.int .i64 (u:Int)) rfl hHeld ?_
   refine tg 5 60 (.pointer (some ⟨be,oe+u,none⟩)) rfl hHeld ?_
   refine ty 6 61 (.int .u32 (x9:Int)) rfl ?_ hHeld ?_
   ·intro ww hS
    try dsimp only at hS
    have XE:=(((hS)).K.cell (p:=⟨be,oe+u,none⟩) hbe).trans hce
    go_simp
    try with_reducible rfl
    try omega
   refine tz 7 62 rfl hHeld ?_
   refine rd 8 63 rfl fun K0 hK=>?_
   go_simp
   refine ((TM3 _ (hW.below L.K) (h0.below L.K)).out).mono ?_
   rintro e w8 ⟨rfl,K'⟩
   replace L:=L.over K'
   refine hK.out _ _ L ?_
   clear hHeld hK K0
   intro hHeld
   clear K'
   try simp only [Act.put,sA,sZ,sS]
   refine tg 9 64 (.int .i64 (((sm:Int)+(q9:Int)))) rfl hHeld ?_
   refine tg 10 7 (.int .i64 (((sm:Int)+(q9:Int)))) rfl hHeld ?_
   refine wpAnyH_done (by kernel_rfl) ?_ _
   clear hHeld
   go_wp2
   go_roundw
   case rel=>exact ⟨u+1,sm+q9,by omega,by have:=hq9.out;omega,trivial,by go_num,by go_num,L⟩
   case measure=>simp [intOf];omega
  have huk:u=n0:=by omega
  have hno:¬ ((u:Int)<(n0:Int)):=by omega
  clear hlt
  clear huk hu
  obtain ⟨n2,hn2,hn2a,hn2b⟩:∃ x:Nat,min (64:Int) ((ns:Int)+1)=(x:Int)∧x≤64∧ns≤x:=⟨(min (64:Int) ((ns:Int)+1)).toNat,by omega,by omega,by omega⟩
  obtain ⟨t2,ht2,ht2a,ht2b⟩:∃ x:Nat,min (8:Int) ((tn:Int)+1)=(x:Int)∧x≤8∧tn≤x:=⟨(min (8:Int) ((tn:Int)+1)).toNat,by omega,by omega,by omega⟩
  have en:IntKind.i64.wrap ((ns:Int)+1)=(ns:Int)+1:=IntWalk.i64_in _ (by omega)
  have et:IntKind.i64.wrap ((tn:Int)+1)=(tn:Int)+1:=IntWalk.i64_in _ (by omega)
  have TM4:=TM2
  have hup2:=hup.out n2 t2 hn2b ht2b
  have TM5:=fun w hW hZ hI=>TM2 w n2 t2 hn2a ht2a hW hZ hI
  obtain ⟨M2,hM2⟩:∃ q,q=mostN a M n2 t2 zs 4 X xs:=⟨_,rfl⟩
  simp only [← hM2] at TM5 hup2
  have hge:decide ((M2:Int) ≥ 0)=true:=decide_eq_true (by omega)
  clear hM2 TM2 TM4 hup
  have Q_2:=L.at_ 0 2 rfl (v:=.slice A0 n0 c0) rfl
  have Q_0:=L.at_ 0 0 rfl (v:=.int .i64 4) rfl
  have Q_z:=L.lt 0 rfl
  go_upto_region 15 with (first | (refine lC 2 (L.bk_ 1 rfl) ?_) | (refine wpList_store_row rfl 27 (.tmp 9) (.tmp 77) rfl _ _ rfl (show _=Value.agg (#[.int .u32 (a:Int),.int .i64 p,.slice A n c,.int .i64 (ns:Int),.int .i64 wo,.int .i64 qu,.int .i64 (tn:Int)]) from rfl) _ _ (Bk.new _ _ _) cf_sz rfl (by simp [Value.oneCell']) ?_))
  clear Q_2 Q_0 Q_z
  try rw [World.setRow_alloc_new]
  replace L:=(L).alloc #[.int .u32 (a:Int),.int .i64 p,.slice A n c,.int .i64 (ns:Int),.int .i64 wo,.int .i64 qu,.int .i64 (tn:Int)] 27
  try simp only [World.size_alloc] at L
  try dsimp only [nput] at L
  generalize (wr).alloc (.cells #[.int .u32 (a:Int),.int .i64 p,.slice A n c,.int .i64 (ns:Int),.int .i64 wo,.int .i64 qu,.int .i64 (tn:Int)] 27)=w7 at L ⊢
  generalize wr.heap.size=gD at L ⊢
  have H_3:=L.at_ 2 3 rfl (v:=.int .i64 (ns:Int)) rfl
  have D_3:=L.at_ 0 3 rfl (v:=.int .i64 (ns:Int)) rfl
  have H_z:=L.lt 2 rfl
  have D_z:=L.lt 0 rfl
  have D_f3:=L.fz 0 3 rfl
  have ne_D_H:=L.ne_ 0 2 rfl rfl (by decide)
  go_upto_region 16 with fail
  clear H_3 D_3 H_z D_z D_f3 ne_D_H
  replace L:=((L.set 0 3 rfl (.int .i64 (n2:Int))).is 0 (#[.int .u32 (a:Int),.int .i64 p,.slice A n c,.int .i64 (n2:Int),.int .i64 wo,.int .i64 qu,.int .i64 (tn:Int)]) rfl)
  try dsimp only [nput] at L
  generalize (w7).setCell ⟨gD,3,none⟩ (.int .i64 (n2:Int))=w8 at L ⊢
  have H_6:=L.at_ 2 6 rfl (v:=.int .i64 (tn:Int)) rfl
  have D_6:=L.at_ 0 6 rfl (v:=.int .i64 (tn:Int)) rfl
  have H_z:=L.lt 2 rfl
  have D_z:=L.lt 0 rfl
  have D_f6:=L.fz 0 6 rfl
  have ne_D_H:=L.ne_ 0 2 rfl rfl (by decide)
  go_upto_region 17 with fail
  clear H_6 D_6 H_z D_z D_f6 ne_D_H
  replace L:=((L.set 0 6 rfl (.int .i64 (t2:Int))).is 0 (#[.int .u32 (a:Int),.int .i64 p,.slice A n c,.int .i64 (n2:Int),.int .i64 wo,.int .i64 qu,.int .i64 (t2:Int)]) rfl)
  try dsimp only [nput] at L
  generalize (w8).setCell ⟨gD,6,none⟩ (.int .i64 (t2:Int))=w9 at L ⊢
  go_wp2_with (first | (refine lC 9 (L.bk_ 0 rfl) ?_) | (refine wpList_load_row rfl 30 (.tmp 3) rfl gQ rfl _ _ (0,0) _ (L.bk_ 1 rfl) Tryz.underlying30 rfl ak_sz ?_))
  refine ((TM5 _ (hW.below L.K) (h0.below L.K) (hs.below L.K)).out).mono ?_
  rintro e w10 ⟨rfl,K'⟩
  replace L:=L.over K'
  go_wp2
  go_ret
  exact ⟨rfl,L.K⟩
theorem mo_b (PS:PoolSays) (hW:Laid w) (ha:a<4294967296) (h0:IS .i64 lo w A n c zs) (hs:IS .u32 lo2 w A0 n0 c0 xs) (hX:X<4294967296) (hw:W32 xs) (hM:Much a p M) (h1:1≤ns) (h2:ns≤64) (ht1:1≤tn) (ht8:tn≤8) (hn9:n≤64) (hM9:M≤256) (hf:n0≤100) (he:askE a M zs kd (X:Int) xs≠0) (h4:kd≠4) :
  Calls Tryz.prog 5 #[.agg #[.int .u32 (a:Int),.int .i64 p,.slice A n c,.int .i64 (ns:Int),.int .i64 wo,.int .i64 qu,.int .i64 (tn:Int)],.agg #[.int .i64 kd,.int .u32 (X:Int),.slice A0 n0 c0]] w (RetBo true w):=by
 have TMo:=fun w (hW:Laid w) (hZ:IS .i64 lo w A n c zs) (hI:IS .u32 lo2 w A0 n0 c0 xs)=>Lib.hid (PS.mst (k:=kd) (wo:=wo) (qu:=qu) hW ha hM h2 ht8 hZ (by omega) hX hI (by omega) hw)
 have TC:=fun w (h0:IS .i64 lo w A n c zs) (hs:IS .u32 lo2 w A0 n0 c0 xs)=>Lib.hid (rcheck_any (w:=w) (sh:=(ns:Int)) (wo:=wo) (qu:=qu) (tr:=(tn:Int)) (k:=kd) hM h0 (by omega) hs (by omega) hX hw)
 have TM1:=fun w x (hx:x<4294967296) (hW:Laid w) (hZ:IS .i64 lo w A n c zs)=>Lib.hid (PS.mst (k:=3) (wo:=wo) (qu:=qu) (X:=x) (rq:=[]) hW ha hM h2 ht8 hZ (by omega) hx (IS.none_ .u32 0 w) (Nat.zero_le _) (by intro y hy;cases hy))
 have TM2:=fun w n2 t2 (h22:n2≤64) (ht2:t2≤8) (hW:Laid w) (hZ:IS .i64 lo w A n c zs) (hI:IS .u32 lo2 w A0 n0 c0 xs)=>Lib.hid (PS.mst (ns:=n2) (tr:=t2) (k:=kd) (wo:=wo) (qu:=qu) hW ha hM h22 ht2 hZ (by omega) hX hI (by omega) hw)
 have hMO:mostN a M ns tn zs kd X xs=0:=by unfold mostN;rw [if_pos (.inl he)]
 have hup:=most_up (a:=a) (zs:=zs) (k:=kd) (X:=X) (rq:=xs) (M:=M) (ns:=ns) (tr:=tn) h2 ht8
 have hone:∀ i,mostN a M ns tn zs 3 (gi xs i).toNat []≤6:=fun i=>most_one
 have hmo9:mostN a M ns tn zs kd X xs≤1000:=most_few (by have:=hM.pos;unfold lv;omega) (by unfold tv tq lv;have:=hM.pos;omega) h2 ht8 (by have:=hs.len;omega)
 obtain ⟨MO,hMOe⟩:∃ x,x=mostN a M ns tn zs kd X xs:=⟨_,rfl⟩
 simp only [← hMOe] at TMo hMO hup hmo9
 subst hMO
 obtain ⟨e9,he9⟩:∃ e,e=askE a M zs kd (X:Int) xs:=⟨_,rfl⟩
 rw [← he9] at he
 simp only [← he9] at TC
 have ee:(e9 != 0)=true:=by simp [he]
 clear he9 he
 have e4:(kd == 4)=false:=by simp [h4]
 replace hone:=Lib.hid hone
 replace hup:=Lib.hid hup
 clear hMOe
 go_enter Tryz.func5,Tryz.ntmps5
 go_upto_region 1 with (fail)
 have L:=Loc.start w
 replace L:=((L).alloc #[.int .u32 (a:Int),.int .i64 p,.slice A n c,.int .i64 (ns:Int),.int .i64 wo,.int .i64 qu,.int .i64 (tn:Int)] 27).alloc #[.int .i64 kd,.int .u32 (X:Int),.slice A0 n0 c0] 30
 try simp only [World.size_alloc] at L
 try dsimp only [nput] at L
 generalize ((w).alloc (.cells #[.int .u32 (a:Int),.int .i64 p,.slice A n c,.int .i64 (ns:Int),.int .i64 wo,.int .i64 qu,.int .i64 (tn:Int)] 27)).alloc (.cells #[.int .i64 kd,.int .u32 (X:Int),.slice A0 n0 c0] 30)=w1 at L ⊢
 generalize w.heap.size+1=gQ at L ⊢
 generalize w.heap.size=gH at L ⊢
 go_wp2_with fail
 refine ((PS.awk (hW.below L.K))).mono ?_
 rintro e w2 ⟨rfl,K'⟩
 replace L:=L.over K'
 go_wp2_with (refine wpList_load_want (by rfl) 27 (.tmp 2) rfl gH rfl _ _ (0,0) _ (L.bk_ 1 rfl) Tryz.underlying27 rfl cf_sz ?_)
 refine (small21_any ha (h0.below L.K)).mono ?_
 rintro e w3 ⟨bo,rfl,-,K'⟩
 replace L:=L.over K'
 rcases bo with _ | _
 ·go_wp2_with fail
  refine (PS.awk (hW.below L.K)).mono ?_
  rintro e w90 ⟨rfl,K'⟩
  replace L:=L.over K'
  go_wp2
  go_ret
  exact ⟨rfl,L.K⟩
 go_wp2_with (refine wpList_load_want (by rfl) 30 (.tmp 3) rfl gQ rfl _ _ (0,0) _ (L.bk_ 0 rfl) Tryz.underlying30 rfl ak_sz ?_)
 refine ((few_yes (hs.below L.K) hf)).mono ?_
 rintro e w4 ⟨rfl,K'⟩
 replace L:=L.over K'
 go_wp2_with (first | (refine lC 2 (L.bk_ 1 rfl) ?_) | (refine wpList_load_row rfl 30 (.tmp 3) rfl gQ rfl _ _ (0,0) _ (L.bk_ 0 rfl) Tryz.underlying30 rfl ak_sz ?_))
 refine ((TMo _ (hW.below L.K) (h0.below L.K) (hs.below L.K)).out).mono ?_
 rintro e w5 ⟨rfl,K'⟩
 replace L:=L.over K'
 go_wp2_with (first | (refine lC 2 (L.bk_ 1 rfl) ?_) | (refine wpList_load_row rfl 30 (.tmp 3) rfl gQ rfl _ _ (0,0) _ (L.bk_ 0 rfl) Tryz.underlying30 rfl ak_sz ?_))
 refine ((TC _ (h0.below L.K) (hs.below L.K)).out).mono ?_
 rintro e w6 ⟨rfl,K'⟩
 replace L:=L.over K'
 go_wp2
 go_loopw [7,8] (fun sv iv wr=>sv=.int .i64 0∧iv=.int .i64 0∧Loc w wr [(gQ,30,#[.int .i64 kd,.int .u32 (X:Int),.slice A0 n0 c0]),(gH,27,#[.int .u32 (a:Int),.int .i64 p,.slice A n c,.int .i64 (ns:Int),.int .i64 wo,.int .i64 qu,.int .i64 (tn:Int)])] []) (fun _ iv _=>0)
 case atStart=>exact ⟨rfl,rfl,L⟩
 case round =>
  clear L
  obtain ⟨rfl,rfl,L⟩:=hrel
  by_cases hz:(0:Int)<(n0:Int)
  all_goals (
   obtain ⟨n2,hn2,hn2a,hn2b⟩:∃ x:Nat,min (64:Int) ((ns:Int)+1)=(x:Int)∧x≤64∧ns≤x:=⟨(min (64:Int) ((ns:Int)+1)).toNat,by omega,by omega,by omega⟩
   obtain ⟨t2,ht2,ht2a,ht2b⟩:∃ x:Nat,min (8:Int) ((tn:Int)+1)=(x:Int)∧x≤8∧tn≤x:=⟨(min (8:Int) ((tn:Int)+1)).toNat,by omega,by omega,by omega⟩
   have en:IntKind.i64.wrap ((ns:Int)+1)=(ns:Int)+1:=IntWalk.i64_in _ (by omega)
   have et:IntKind.i64.wrap ((tn:Int)+1)=(tn:Int)+1:=IntWalk.i64_in _ (by omega)
   have TM4:=TM2
   have hup2:=hup.out n2 t2 hn2b ht2b
   have TM5:=fun w hW hZ hI=>TM2 w n2 t2 hn2a ht2a hW hZ hI
   obtain ⟨M2,hM2⟩:∃ q,q=mostN a M n2 t2 zs kd X xs:=⟨_,rfl⟩
   simp only [← hM2] at TM5 hup2
   have hge:decide ((M2:Int) ≥ 0)=true:=decide_eq_true (by omega)
   clear hM2 TM2 TM4 hup
   have Q_2:=L.at_ 0 2 rfl (v:=.slice A0 n0 c0) rfl
   have Q_0:=L.at_ 0 0 rfl (v:=.int .i64 kd) rfl
   have Q_z:=L.lt 0 rfl
   go_upto_region 15 with (first | (refine lC 2 (L.bk_ 1 rfl) ?_) | (refine wpList_store_row rfl 27 (.tmp 9) (.tmp 77) rfl _ _ rfl (show _=Value.agg (#[.int .u32 (a:Int),.int .i64 p,.slice A n c,.int .i64 (ns:Int),.int .i64 wo,.int .i64 qu,.int .i64 (tn:Int)]) from rfl) _ _ (Bk.new _ _ _) cf_sz rfl (by simp [Value.oneCell']) ?_))
   clear Q_2 Q_0 Q_z
   try rw [World.setRow_alloc_new]
   replace L:=(L).alloc #[.int .u32 (a:Int),.int .i64 p,.slice A n c,.int .i64 (ns:Int),.int .i64 wo,.int .i64 qu,.int .i64 (tn:Int)] 27
   try simp only [World.size_alloc] at L
   try dsimp only [nput] at L
   generalize (wr).alloc (.cells #[.int .u32 (a:Int),.int .i64 p,.slice A n c,.int .i64 (ns:Int),.int .i64 wo,.int .i64 qu,.int .i64 (tn:Int)] 27)=w7 at L ⊢
   generalize wr.heap.size=gD at L ⊢
   have H_3:=L.at_ 2 3 rfl (v:=.int .i64 (ns:Int)) rfl
   have D_3:=L.at_ 0 3 rfl (v:=.int .i64 (ns:Int)) rfl
   have H_z:=L.lt 2 rfl
   have D_z:=L.lt 0 rfl
   have D_f3:=L.fz 0 3 rfl
   have ne_D_H:=L.ne_ 0 2 rfl rfl (by decide)
   go_upto_region 16 with fail
   clear H_3 D_3 H_z D_z D_f3 ne_D_H
   replace L:=((L.set 0 3 rfl (.int .i64 (n2:Int))).is 0 (#[.int .u32 (a:Int),.int .i64 p,.slice A n c,.int .i64 (n2:Int),.int .i64 wo,.int .i64 qu,.int .i64 (tn:Int)]) rfl)
   try dsimp only [nput] at L
   generalize (w7).setCell ⟨gD,3,none⟩ (.int .i64 (n2:Int))=w8 at L ⊢
   have H_6:=L.at_ 2 6 rfl (v:=.int .i64 (tn:Int)) rfl
   have D_6:=L.at_ 0 6 rfl (v:=.int .i64 (tn:Int)) rfl
   have H_z:=L.lt 2 rfl
   have D_z:=L.lt 0 rfl
   have D_f6:=L.fz 0 6 rfl
   have ne_D_H:=L.ne_ 0 2 rfl rfl (by decide)
   go_upto_region 17 with fail
   clear H_6 D_6 H_z D_z D_f6 ne_D_H
   replace L:=((L.set 0 6 rfl (.int .i64 (t2:Int))).is 0 (#[.int .u32 (a:Int),.int .i64 p,.slice A n c,.int .i64 (n2:Int),.int .i64 wo,.int .i64 qu,.int .i64 (t2:Int)]) rfl)
   try dsimp only [nput] at L
   generalize (w8).setCell ⟨gD,6,none⟩ (.int .i64 (t2:Int))=w9 at L ⊢
   go_wp2_with (first | (refine lC 9 (L.bk_ 0 rfl) ?_) | (refine wpList_load_row rfl 30 (.tmp 3) rfl gQ rfl _ _ (0,0) _ (L.bk_ 1 rfl) Tryz.underlying30 rfl ak_sz ?_))
   refine ((TM5 _ (hW.below L.K) (h0.below L.K) (hs.below L.K)).out).mono ?_
   rintro e w10 ⟨rfl,K'⟩
   replace L:=L.over K'
   go_wp2
   go_ret
   exact ⟨rfl,L.K⟩)
theorem mo_c (PS:PoolSays) (hW:Laid w) (ha:a<4294967296) (h0:IS .i64 lo w A n c zs) (hs:IS .u32 lo2 w A0 n0 c0 xs) (hX:X<4294967296) (hw:W32 xs) (hM:Much a p M) (h1:1≤ns) (h2:ns≤64) (ht1:1≤tn) (ht8:tn≤8) (hn9:n≤64) (hM9:M≤256) (hf:n0≤100) (he:askE a M zs kd (X:Int) xs=0) (h7:kd=7) :
  Calls Tryz.prog 5 #[.agg #[.int .u32 (a:Int),.int .i64 p,.slice A n c,.int .i64 (ns:Int),.int .i64 wo,.int .i64 qu,.int .i64 (tn:Int)],.agg #[.int .i64 kd,.int .u32 (X:Int),.slice A0 n0 c0]] w (RetBo true w):=by
 have TMo:=fun w (hW:Laid w) (hZ:IS .i64 lo w A n c zs) (hI:IS .u32 lo2 w A0 n0 c0 xs)=>Lib.hid (PS.mst (k:=kd) (wo:=wo) (qu:=qu) hW ha hM h2 ht8 hZ (by omega) hX hI (by omega) hw)
 have TC:=fun w (h0:IS .i64 lo w A n c zs) (hs:IS .u32 lo2 w A0 n0 c0 xs)=>Lib.hid (rcheck_any (w:=w) (sh:=(ns:Int)) (wo:=wo) (qu:=qu) (tr:=(tn:Int)) (k:=kd) hM h0 (by omega) hs (by omega) hX hw)
 have TM1:=fun w x (hx:x<4294967296) (hW:Laid w) (hZ:IS .i64 lo w A n c zs)=>Lib.hid (PS.mst (k:=3) (wo:=wo) (qu:=qu) (X:=x) (rq:=[]) hW ha hM h2 ht8 hZ (by omega) hx (IS.none_ .u32 0 w) (Nat.zero_le _) (by intro y hy;cases hy))
 have TM2:=fun w n2 t2 (h22:n2≤64) (ht2:t2≤8) (hW:Laid w) (hZ:IS .i64 lo w A n c zs) (hI:IS .u32 lo2 w A0 n0 c0 xs)=>Lib.hid (PS.mst (ns:=n2) (tr:=t2) (k:=kd) (wo:=wo) (qu:=qu) hW ha hM h22 ht2 hZ (by omega) hX hI (by omega) hw)
 have hMO:mostN a M ns tn zs kd X xs=0:=by unfold mostN;rw [if_pos (.inr h7)]
 have hup:=most_up (a:=a) (zs:=zs) (k:=kd) (X:=X) (rq:=xs) (M:=M) (ns:=ns) (tr:=tn) h2 ht8
 have hone:∀ i,mostN a M ns tn zs 3 (gi xs i).toNat []≤6:=fun i=>most_one
 have hmo9:mostN a M ns tn zs kd X xs≤1000:=most_few (by have:=hM.pos;unfold lv;omega) (by unfold tv tq lv;have:=hM.pos;omega) h2 ht8 (by have:=hs.len;omega)
 obtain ⟨MO,hMOe⟩:∃ x,x=mostN a M ns tn zs kd X xs:=⟨_,rfl⟩
 simp only [← hMOe] at TMo hMO hup hmo9
 subst hMO
 simp only [he] at TC
 clear he
 subst h7
 replace hone:=Lib.hid hone
 replace hup:=Lib.hid hup
 clear hMOe
 go_enter Tryz.func5,Tryz.ntmps5
 go_upto_region 1 with (fail)
 have L:=Loc.start w
 replace L:=((L).alloc #[.int .u32 (a:Int),.int .i64 p,.slice A n c,.int .i64 (ns:Int),.int .i64 wo,.int .i64 qu,.int .i64 (tn:Int)] 27).alloc #[.int .i64 7,.int .u32 (X:Int),.slice A0 n0 c0] 30
 try simp only [World.size_alloc] at L
 try dsimp only [nput] at L
 generalize ((w).alloc (.cells #[.int .u32 (a:Int),.int .i64 p,.slice A n c,.int .i64 (ns:Int),.int .i64 wo,.int .i64 qu,.int .i64 (tn:Int)] 27)).alloc (.cells #[.int .i64 7,.int .u32 (X:Int),.slice A0 n0 c0] 30)=w1 at L ⊢
 generalize w.heap.size+1=gQ at L ⊢
 generalize w.heap.size=gH at L ⊢
 go_wp2_with fail
 refine ((PS.awk (hW.below L.K))).mono ?_
 rintro e w2 ⟨rfl,K'⟩
 replace L:=L.over K'
 go_wp2_with (refine wpList_load_want (by rfl) 27 (.tmp 2) rfl gH rfl _ _ (0,0) _ (L.bk_ 1 rfl) Tryz.underlying27 rfl cf_sz ?_)
 refine (small21_any ha (h0.below L.K)).mono ?_
 rintro e w3 ⟨bo,rfl,-,K'⟩
 replace L:=L.over K'
 rcases bo with _ | _
 ·go_wp2_with fail
  refine (PS.awk (hW.below L.K)).mono ?_
  rintro e w90 ⟨rfl,K'⟩
  replace L:=L.over K'
  go_wp2
  go_ret
  exact ⟨rfl,L.K⟩
 go_wp2_with (refine wpList_load_want (by rfl) 30 (.tmp 3) rfl gQ rfl _ _ (0,0) _ (L.bk_ 0 rfl) Tryz.underlying30 rfl ak_sz ?_)
 refine ((few_yes (hs.below L.K) hf)).mono ?_
 rintro e w4 ⟨rfl,K'⟩
 replace L:=L.over K'
 go_wp2_with (first | (refine lC 2 (L.bk_ 1 rfl) ?_) | (refine wpList_load_row rfl 30 (.tmp 3) rfl gQ rfl _ _ (0,0) _ (L.bk_ 0 rfl) Tryz.underlying30 rfl ak_sz ?_))
 refine ((TMo _ (hW.below L.K) (h0.below L.K) (hs.below L.K)).out).mono ?_
 rintro e w5 ⟨rfl,K'⟩
 replace L:=L.over K'
 go_wp2_with (first | (refine lC 2 (L.bk_ 1 rfl) ?_) | (refine wpList_load_row rfl 30 (.tmp 3) rfl gQ rfl _ _ (0,0) _ (L.bk_ 0 rfl) Tryz.underlying30 rfl ak_sz ?_))
 refine ((TC _ (h0.below L.K) (hs.below L.K)).out).mono ?_
 rintro e w6 ⟨rfl,K'⟩
 replace L:=L.over K'
 have Q_0:=L.at_ 0 0 rfl (v:=.int .i64 7) rfl
 have Q_z:=L.lt 0 rfl
 go_wp2_with fail
 clear Q_0 Q_z
 go_loopw [7,8] (fun sv iv wr=>sv=.int .i64 0∧iv=.int .i64 0∧Loc w wr [(gQ,30,#[.int .i64 7,.int .u32 (X:Int),.slice A0 n0 c0]),(gH,27,#[.int .u32 (a:Int),.int .i64 p,.slice A n c,.int .i64 (ns:Int),.int .i64 wo,.int .i64 qu,.int .i64 (tn:Int)])] []) (fun _ iv _=>0)
 case atStart=>exact ⟨rfl,rfl,L⟩
 case round =>
  clear L
  obtain ⟨rfl,rfl,L⟩:=hrel
  by_cases hz:(0:Int)<(n0:Int)
  all_goals (
   obtain ⟨n2,hn2,hn2a,hn2b⟩:∃ x:Nat,min (64:Int) ((ns:Int)+1)=(x:Int)∧x≤64∧ns≤x:=⟨(min (64:Int) ((ns:Int)+1)).toNat,by omega,by omega,by omega⟩
   obtain ⟨t2,ht2,ht2a,ht2b⟩:∃ x:Nat,min (8:Int) ((tn:Int)+1)=(x:Int)∧x≤8∧tn≤x:=⟨(min (8:Int) ((tn:Int)+1)).toNat,by omega,by omega,by omega⟩
   have en:IntKind.i64.wrap ((ns:Int)+1)=(ns:Int)+1:=IntWalk.i64_in _ (by omega)
   have et:IntKind.i64.wrap ((tn:Int)+1)=(tn:Int)+1:=IntWalk.i64_in _ (by omega)
   have TM4:=TM2
   have hup2:=hup.out n2 t2 hn2b ht2b
   have TM5:=fun w hW hZ hI=>TM2 w n2 t2 hn2a ht2a hW hZ hI
   obtain ⟨M2,hM2⟩:∃ q,q=mostN a M n2 t2 zs 7 X xs:=⟨_,rfl⟩
   simp only [← hM2] at TM5 hup2
   have hge:decide ((M2:Int) ≥ 0)=true:=decide_eq_true (by omega)
   clear hM2 TM2 TM4 hup
   have Q_2:=L.at_ 0 2 rfl (v:=.slice A0 n0 c0) rfl
   have Q_0:=L.at_ 0 0 rfl (v:=.int .i64 7) rfl
   have Q_z:=L.lt 0 rfl
   go_upto_region 15 with (first | (refine lC 2 (L.bk_ 1 rfl) ?_) | (refine wpList_store_row rfl 27 (.tmp 9) (.tmp 77) rfl _ _ rfl (show _=Value.agg (#[.int .u32 (a:Int),.int .i64 p,.slice A n c,.int .i64 (ns:Int),.int .i64 wo,.int .i64 qu,.int .i64 (tn:Int)]) from rfl) _ _ (Bk.new _ _ _) cf_sz rfl (by simp [Value.oneCell']) ?_))
   clear Q_2 Q_0 Q_z
   try rw [World.setRow_alloc_new]
   replace L:=(L).alloc #[.int .u32 (a:Int),.int .i64 p,.slice A n c,.int .i64 (ns:Int),.int .i64 wo,.int .i64 qu,.int .i64 (tn:Int)] 27
   try simp only [World.size_alloc] at L
   try dsimp only [nput] at L
   generalize (wr).alloc (.cells #[.int .u32 (a:Int),.int .i64 p,.slice A n c,.int .i64 (ns:Int),.int .i64 wo,.int .i64 qu,.int .i64 (tn:Int)] 27)=w7 at L ⊢
   generalize wr.heap.size=gD at L ⊢
   have H_3:=L.at_ 2 3 rfl (v:=.int .i64 (ns:Int)) rfl
   have D_3:=L.at_ 0 3 rfl (v:=.int .i64 (ns:Int)) rfl
   have H_z:=L.lt 2 rfl
   have D_z:=L.lt 0 rfl
   have D_f3:=L.fz 0 3 rfl
   have ne_D_H:=L.ne_ 0 2 rfl rfl (by decide)
   go_upto_region 16 with fail
   clear H_3 D_3 H_z D_z D_f3 ne_D_H
   replace L:=((L.set 0 3 rfl (.int .i64 (n2:Int))).is 0 (#[.int .u32 (a:Int),.int .i64 p,.slice A n c,.int .i64 (n2:Int),.int .i64 wo,.int .i64 qu,.int .i64 (tn:Int)]) rfl)
   try dsimp only [nput] at L
   generalize (w7).setCell ⟨gD,3,none⟩ (.int .i64 (n2:Int))=w8 at L ⊢
   have H_6:=L.at_ 2 6 rfl (v:=.int .i64 (tn:Int)) rfl
   have D_6:=L.at_ 0 6 rfl (v:=.int .i64 (tn:Int)) rfl
   have H_z:=L.lt 2 rfl
   have D_z:=L.lt 0 rfl
   have D_f6:=L.fz 0 6 rfl
   have ne_D_H:=L.ne_ 0 2 rfl rfl (by decide)
   go_upto_region 17 with fail
   clear H_6 D_6 H_z D_z D_f6 ne_D_H
   replace L:=((L.set 0 6 rfl (.int .i64 (t2:Int))).is 0 (#[.int .u32 (a:Int),.int .i64 p,.slice A n c,.int .i64 (n2:Int),.int .i64 wo,.int .i64 qu,.int .i64 (t2:Int)]) rfl)
   try dsimp only [nput] at L
   generalize (w8).setCell ⟨gD,6,none⟩ (.int .i64 (t2:Int))=w9 at L ⊢
   go_wp2_with (first | (refine lC 9 (L.bk_ 0 rfl) ?_) | (refine wpList_load_row rfl 30 (.tmp 3) rfl gQ rfl _ _ (0,0) _ (L.bk_ 1 rfl) Tryz.underlying30 rfl ak_sz ?_))
   refine ((TM5 _ (hW.below L.K) (h0.below L.K) (hs.below L.K)).out).mono ?_
   rintro e w10 ⟨rfl,K'⟩
   replace L:=L.over K'
   go_wp2
   go_ret
   exact ⟨rfl,L.K⟩)
theorem mo_d (PS:PoolSays) (hW:Laid w) (ha:a<4294967296) (h0:IS .i64 lo w A n c zs) (hs:IS .u32 lo2 w A0 n0 c0 xs) (hX:X<4294967296) (hw:W32 xs) (hM:Much a p M) (h1:1≤ns) (h2:ns≤64) (ht1:1≤tn) (ht8:tn≤8) (hn9:n≤64) (hM9:M≤256) (hf:n0≤100) (he:askE a M zs kd (X:Int) xs=0) (h4:kd=4) :
  Calls Tryz.prog 5 #[.agg #[.int .u32 (a:Int),.int .i64 p,.slice A n c,.int .i64 (ns:Int),.int .i64 wo,.int .i64 qu,.int .i64 (tn:Int)],.agg #[.int .i64 kd,.int .u32 (X:Int),.slice A0 n0 c0]] w (RetBo true w):=by
 have TMo:=fun w (hW:Laid w) (hZ:IS .i64 lo w A n c zs) (hI:IS .u32 lo2 w A0 n0 c0 xs)=>Lib.hid (PS.mst (k:=kd) (wo:=wo) (qu:=qu) hW ha hM h2 ht8 hZ (by omega) hX hI (by omega) hw)
 have TC:=fun w (h0:IS .i64 lo w A n c zs) (hs:IS .u32 lo2 w A0 n0 c0 xs)=>Lib.hid (rcheck_any (w:=w) (sh:=(ns:Int)) (wo:=wo) (qu:=qu) (tr:=(tn:Int)) (k:=kd) hM h0 (by omega) hs (by omega) hX hw)
 have TM1:=fun w x (hx:x<4294967296) (hW:Laid w) (hZ:IS .i64 lo w A n c zs)=>Lib.hid (PS.mst (k:=3) (wo:=wo) (qu:=qu) (X:=x) (rq:=[]) hW ha hM h2 ht8 hZ (by omega) hx (IS.none_ .u32 0 w) (Nat.zero_le _) (by intro y hy;cases hy))
 have TM2:=fun w n2 t2 (h22:n2≤64) (ht2:t2≤8) (hW:Laid w) (hZ:IS .i64 lo w A n c zs) (hI:IS .u32 lo2 w A0 n0 c0 xs)=>Lib.hid (PS.mst (ns:=n2) (tr:=t2) (k:=kd) (wo:=wo) (qu:=qu) hW ha hM h22 ht2 hZ (by omega) hX hI (by omega) hw)
 have hMO:mostN a M ns tn zs kd X xs=mostN a M ns tn zs kd X xs:=rfl
 have hup:=most_up (a:=a) (zs:=zs) (k:=kd) (X:=X) (rq:=xs) (M:=M) (ns:=ns) (tr:=tn) h2 ht8
 have hpos:0<mostN a M ns tn zs kd X xs:=most_pos hM.pos ht1 he (by omega)
 have h6:mostN a M ns tn zs kd X xs=6*xs.length:=by unfold mostN;rw [if_neg (by rintro (h | h);exact h he;omega),if_neg (by omega),if_pos h4]
 have hone:∀ i,i<xs.length→mostN a M ns tn zs 3 (gi xs i).toNat []=6:=fun i hi=>most_in (by rw [h4] at he;exact he) hw hi
 have hmo9:mostN a M ns tn zs kd X xs≤1000:=most_few (by have:=hM.pos;unfold lv;omega) (by unfold tv tq lv;have:=hM.pos;omega) h2 ht8 (by have:=hs.len;omega)
 obtain ⟨MO,hMOe⟩:∃ x,x=mostN a M ns tn zs kd X xs:=⟨_,rfl⟩
 simp only [← hMOe] at TMo hMO hup hmo9 hpos h6
 clear hMO
 simp only [he] at TC
 clear he
 have hMOp:((MO:Int) == 0)=false:=by simp;omega
 skip
 subst h4
 replace hone:=Lib.hid hone
 replace hup:=Lib.hid hup
 clear hMOe
 replace h6:=Lib.hid h6
 go_enter Tryz.func5,Tryz.ntmps5
 go_upto_region 1 with (fail)
 have L:=Loc.start w
 replace L:=((L).alloc #[.int .u32 (a:Int),.int .i64 p,.slice A n c,.int .i64 (ns:Int),.int .i64 wo,.int .i64 qu,.int .i64 (tn:Int)] 27).alloc #[.int .i64 4,.int .u32 (X:Int),.slice A0 n0 c0] 30
 try simp only [World.size_alloc] at L
 try dsimp only [nput] at L
 generalize ((w).alloc (.cells #[.int .u32 (a:Int),.int .i64 p,.slice A n c,.int .i64 (ns:Int),.int .i64 wo,.int .i64 qu,.int .i64 (tn:Int)] 27)).alloc (.cells #[.int .i64 4,.int .u32 (X:Int),.slice A0 n0 c0] 30)=w1 at L ⊢
 generalize w.heap.size+1=gQ at L ⊢
 generalize w.heap.size=gH at L ⊢
 go_wp2_with fail
 refine ((PS.awk (hW.below L.K))).mono ?_
 rintro e w2 ⟨rfl,K'⟩
 replace L:=L.over K'
 go_wp2_with (refine wpList_load_want (by rfl) 27 (.tmp 2) rfl gH rfl _ _ (0,0) _ (L.bk_ 1 rfl) Tryz.underlying27 rfl cf_sz ?_)
 refine (small21_any ha (h0.below L.K)).mono ?_
 rintro e w3 ⟨bo,rfl,-,K'⟩
 replace L:=L.over K'
 rcases bo with _ | _
 ·go_wp2_with fail
  refine (PS.awk (hW.below L.K)).mono ?_
  rintro e w90 ⟨rfl,K'⟩
  replace L:=L.over K'
  go_wp2
  go_ret
  exact ⟨rfl,L.K⟩
 go_wp2_with (refine wpList_load_want (by rfl) 30 (.tmp 3) rfl gQ rfl _ _ (0,0) _ (L.bk_ 0 rfl) Tryz.underlying30 rfl ak_sz ?_)
 refine ((few_yes (hs.below L.K) hf)).mono ?_
 rintro e w4 ⟨rfl,K'⟩
 replace L:=L.over K'
 go_wp2_with (first | (refine lC 2 (L.bk_ 1 rfl) ?_) | (refine wpList_load_row rfl 30 (.tmp 3) rfl gQ rfl _ _ (0,0) _ (L.bk_ 0 rfl) Tryz.underlying30 rfl ak_sz ?_))
 refine ((TMo _ (hW.below L.K) (h0.below L.K) (hs.below L.K)).out).mono ?_
 rintro e w5 ⟨rfl,K'⟩
 replace L:=L.over K'
 go_wp2_with (first | (refine lC 2 (L.bk_ 1 rfl) ?_) | (refine wpList_load_row rfl 30 (.tmp 3) rfl gQ rfl _ _ (0,0) _ (L.bk_ 0 rfl) Tryz.underlying30 rfl ak_sz ?_))
 refine ((TC _ (h0.below L.K) (hs.below L.K)).out).mono ?_
 rintro e w6 ⟨rfl,K'⟩
 replace L:=L.over K'
 have Q_0:=L.at_ 0 0 rfl (v:=.int .i64 4) rfl
 have Q_z:=L.lt 0 rfl
 go_wp2_with fail
 clear Q_0 Q_z
 go_loopw [7,8] (fun sv iv wr=>∃ (u sm:Nat),u≤n0∧sm≤6*u∧sm=6*u∧sv=.int .i64 (sm:Nat)∧iv=.int .i64 (u:Nat)∧Loc w wr [(gQ,30,#[.int .i64 4,.int .u32 (X:Int),.slice A0 n0 c0]),(gH,27,#[.int .u32 (a:Int),.int .i64 p,.slice A n c,.int .i64 (ns:Int),.int .i64 wo,.int .i64 qu,.int .i64 (tn:Int)])] []) (fun _ iv _=>n0 - (intOf iv).toNat)
 case atStart=>exact ⟨0,0,Nat.zero_le _,Nat.le_refl _,rfl,rfl,rfl,L⟩
 case round =>
  clear L
  obtain ⟨u,sm,hu,hsm,hs6,rfl,rfl,L⟩:=hrel
  replace hs6:=Lib.hid hs6
  by_cases hlt:u<n0
  ·obtain ⟨be,oe,hEe,hbe,hce⟩:=hs.get hlt
   have hxu:u<xs.length:=by have:=hs.len;omega
   have hb:=hw _ (gi_mem hxu)
   obtain ⟨x9,hx9⟩:∃ x:Nat,gi xs u=(x:Int):=⟨(gi xs u).toNat,by omega⟩
   have hq9:=hone.out u hxu
   rw [hx9,Int.toNat_natCast] at hq9
   rw [hx9] at hce hb
   have hu2:(u:Int)<(n0:Int):=by omega
   have TM3:=fun w hW hZ=>TM1 w x9 (by omega) hW hZ
   obtain ⟨q9,hq0⟩:∃ q,q=mostN a M ns tn zs 3 x9 []:=⟨_,rfl⟩
   simp only [← hq0] at TM3 hq9
   clear hq0 hx9 hb TM1
   have e1:IntKind.i64.wrap ((sm:Int)+(q9:Int))=(sm:Int)+(q9:Int):=IntWalk.i64_in _ (by have:=hs.len;omega)
   replace hq9:=Lib.hid hq9
   subst hEe
   have Q_2:=L.at_ 0 2 rfl (v:=.slice (some ⟨be,oe,none⟩) n0 c0) rfl
   have Q_0:=L.at_ 0 0 rfl (v:=.int .i64 4) rfl
   have Q_z:=L.lt 0 rfl
   go_upto_region 11 with fail
   clear Q_2 Q_0 Q_z
   refine rg L fun v7 hHeld=>?_
   replace L:=hHeld
   refine tg 0 55 (.int .i64 (sm:Int)) rfl hHeld ?_
   refine tR 1 56 2 1 rfl rfl Tryz.underlying27 cf_sz hHeld ?_
   refine tg 2 57 (.pointer (some ⟨gQ,2,none⟩)) rfl hHeld ?_
   refine tC 3 58 0 2 rfl rfl rfl hHeld ?_
   refine tg 4 59 (.int .i64 (u:Int)) rfl hHeld ?_
   refine tg 5 60 (.pointer (some ⟨be,oe+u,none⟩)) rfl hHeld ?_
   refine ty 6 61 (.int .u32 (x9:Int)) rfl ?_ hHeld ?_
   ·intro ww hS
    try dsimp only at hS
    have XE:=(((hS)).K.cell (p:=⟨be,oe+u,none⟩) hbe).trans hce
    go_simp
    try with_reducible rfl
    try omega
   refine tz 7 62 rfl hHeld ?_
   refine rd 8 63 rfl fun K0 hK=>?_
   go_simp
   refine ((TM3 _ (hW.below L.K) (h0.below L.K)).out).mono ?_
   rintro e w8 ⟨rfl,K'⟩
   replace L:=L.over K'
   refine hK.out _ _ L ?_
   clear hHeld hK K0
   intro hHeld
   clear K'
   try simp only [Act.put,sA,sZ,sS]
   refine tg 9 64 (.int .i64 (((sm:Int)+(q9:Int)))) rfl hHeld ?_
   refine tg 10 7 (.int .i64 (((sm:Int)+(q9:Int)))) rfl hHeld ?_
   refine wpAnyH_done (by kernel_rfl) ?_ _
   clear hHeld
   go_wp2
   go_roundw
   case rel=>exact ⟨u+1,sm+q9,by omega,by have:=hq9.out;omega,by have:=hs6.out;have:=hq9.out;omega,by go_num,by go_num,L⟩
   case measure=>simp [intOf];omega
  have huk:u=n0:=by omega
  have hno:¬ ((u:Int)<(n0:Int)):=by omega
  clear hlt
  have hse:((sm:Int) != (MO:Int))=false:=by have:=h6.out;have:=hs6.out;have:=hs.len;simp;omega
  clear huk hu hs6
  obtain ⟨n2,hn2,hn2a,hn2b⟩:∃ x:Nat,min (64:Int) ((ns:Int)+1)=(x:Int)∧x≤64∧ns≤x:=⟨(min (64:Int) ((ns:Int)+1)).toNat,by omega,by omega,by omega⟩
  obtain ⟨t2,ht2,ht2a,ht2b⟩:∃ x:Nat,min (8:Int) ((tn:Int)+1)=(x:Int)∧x≤8∧tn≤x:=⟨(min (8:Int) ((tn:Int)+1)).toNat,by omega,by omega,by omega⟩
  have en:IntKind.i64.wrap ((ns:Int)+1)=(ns:Int)+1:=IntWalk.i64_in _ (by omega)
  have et:IntKind.i64.wrap ((tn:Int)+1)=(tn:Int)+1:=IntWalk.i64_in _ (by omega)
  have TM4:=TM2
  have hup2:=hup.out n2 t2 hn2b ht2b
  have TM5:=fun w hW hZ hI=>TM2 w n2 t2 hn2a ht2a hW hZ hI
  obtain ⟨M2,hM2⟩:∃ q,q=mostN a M n2 t2 zs 4 X xs:=⟨_,rfl⟩
  simp only [← hM2] at TM5 hup2
  have hge:decide ((M2:Int) ≥ (MO:Int))=true:=decide_eq_true (by omega)
  clear hM2 TM2 TM4 hup
  have Q_2:=L.at_ 0 2 rfl (v:=.slice A0 n0 c0) rfl
  have Q_0:=L.at_ 0 0 rfl (v:=.int .i64 4) rfl
  have Q_z:=L.lt 0 rfl
  go_upto_region 15 with (first | (refine lC 2 (L.bk_ 1 rfl) ?_) | (refine wpList_store_row rfl 27 (.tmp 9) (.tmp 77) rfl _ _ rfl (show _=Value.agg (#[.int .u32 (a:Int),.int .i64 p,.slice A n c,.int .i64 (ns:Int),.int .i64 wo,.int .i64 qu,.int .i64 (tn:Int)]) from rfl) _ _ (Bk.new _ _ _) cf_sz rfl (by simp [Value.oneCell']) ?_))
  clear Q_2 Q_0 Q_z
  try rw [World.setRow_alloc_new]
  replace L:=(L).alloc #[.int .u32 (a:Int),.int .i64 p,.slice A n c,.int .i64 (ns:Int),.int .i64 wo,.int .i64 qu,.int .i64 (tn:Int)] 27
  try simp only [World.size_alloc] at L
  try dsimp only [nput] at L
  generalize (wr).alloc (.cells #[.int .u32 (a:Int),.int .i64 p,.slice A n c,.int .i64 (ns:Int),.int .i64 wo,.int .i64 qu,.int .i64 (tn:Int)] 27)=w7 at L ⊢
  generalize wr.heap.size=gD at L ⊢
  have H_3:=L.at_ 2 3 rfl (v:=.int .i64 (ns:Int)) rfl
  have D_3:=L.at_ 0 3 rfl (v:=.int .i64 (ns:Int)) rfl
  have H_z:=L.lt 2 rfl
  have D_z:=L.lt 0 rfl
  have D_f3:=L.fz 0 3 rfl
  have ne_D_H:=L.ne_ 0 2 rfl rfl (by decide)
  go_upto_region 16 with fail
  clear H_3 D_3 H_z D_z D_f3 ne_D_H
  replace L:=((L.set 0 3 rfl (.int .i64 (n2:Int))).is 0 (#[.int .u32 (a:Int),.int .i64 p,.slice A n c,.int .i64 (n2:Int),.int .i64 wo,.int .i64 qu,.int .i64 (tn:Int)]) rfl)
  try dsimp only [nput] at L
  generalize (w7).setCell ⟨gD,3,none⟩ (.int .i64 (n2:Int))=w8 at L ⊢
  have H_6:=L.at_ 2 6 rfl (v:=.int .i64 (tn:Int)) rfl
  have D_6:=L.at_ 0 6 rfl (v:=.int .i64 (tn:Int)) rfl
  have H_z:=L.lt 2 rfl
  have D_z:=L.lt 0 rfl
  have D_f6:=L.fz 0 6 rfl
  have ne_D_H:=L.ne_ 0 2 rfl rfl (by decide)
  go_upto_region 17 with fail
  clear H_6 D_6 H_z D_z D_f6 ne_D_H
  replace L:=((L.set 0 6 rfl (.int .i64 (t2:Int))).is 0 (#[.int .u32 (a:Int),.int .i64 p,.slice A n c,.int .i64 (n2:Int),.int .i64 wo,.int .i64 qu,.int .i64 (t2:Int)]) rfl)
  try dsimp only [nput] at L
  generalize (w8).setCell ⟨gD,6,none⟩ (.int .i64 (t2:Int))=w9 at L ⊢
  go_wp2_with (first | (refine lC 9 (L.bk_ 0 rfl) ?_) | (refine wpList_load_row rfl 30 (.tmp 3) rfl gQ rfl _ _ (0,0) _ (L.bk_ 1 rfl) Tryz.underlying30 rfl ak_sz ?_))
  refine ((TM5 _ (hW.below L.K) (h0.below L.K) (hs.below L.K)).out).mono ?_
  rintro e w10 ⟨rfl,K'⟩
  replace L:=L.over K'
  go_wp2
  go_ret
  exact ⟨rfl,L.K⟩
theorem mo_e (PS:PoolSays) (hW:Laid w) (ha:a<4294967296) (h0:IS .i64 lo w A n c zs) (hs:IS .u32 lo2 w A0 n0 c0 xs) (hX:X<4294967296) (hw:W32 xs) (hM:Much a p M) (h1:1≤ns) (h2:ns≤64) (ht1:1≤tn) (ht8:tn≤8) (hn9:n≤64) (hM9:M≤256) (hf:n0≤100) (he:askE a M zs kd (X:Int) xs=0) (h7:kd≠7) (h4:kd≠4) :
  Calls Tryz.prog 5 #[.agg #[.int .u32 (a:Int),.int .i64 p,.slice A n c,.int .i64 (ns:Int),.int .i64 wo,.int .i64 qu,.int .i64 (tn:Int)],.agg #[.int .i64 kd,.int .u32 (X:Int),.slice A0 n0 c0]] w (RetBo true w):=by
 have TMo:=fun w (hW:Laid w) (hZ:IS .i64 lo w A n c zs) (hI:IS .u32 lo2 w A0 n0 c0 xs)=>Lib.hid (PS.mst (k:=kd) (wo:=wo) (qu:=qu) hW ha hM h2 ht8 hZ (by omega) hX hI (by omega) hw)
 have TC:=fun w (h0:IS .i64 lo w A n c zs) (hs:IS .u32 lo2 w A0 n0 c0 xs)=>Lib.hid (rcheck_any (w:=w) (sh:=(ns:Int)) (wo:=wo) (qu:=qu) (tr:=(tn:Int)) (k:=kd) hM h0 (by omega) hs (by omega) hX hw)
 have TM1:=fun w x (hx:x<4294967296) (hW:Laid w) (hZ:IS .i64 lo w A n c zs)=>Lib.hid (PS.mst (k:=3) (wo:=wo) (qu:=qu) (X:=x) (rq:=[]) hW ha hM h2 ht8 hZ (by omega) hx (IS.none_ .u32 0 w) (Nat.zero_le _) (by intro y hy;cases hy))
 have TM2:=fun w n2 t2 (h22:n2≤64) (ht2:t2≤8) (hW:Laid w) (hZ:IS .i64 lo w A n c zs) (hI:IS .u32 lo2 w A0 n0 c0 xs)=>Lib.hid (PS.mst (ns:=n2) (tr:=t2) (k:=kd) (wo:=wo) (qu:=qu) hW ha hM h22 ht2 hZ (by omega) hX hI (by omega) hw)
 have hMO:mostN a M ns tn zs kd X xs=mostN a M ns tn zs kd X xs:=rfl
 have hup:=most_up (a:=a) (zs:=zs) (k:=kd) (X:=X) (rq:=xs) (M:=M) (ns:=ns) (tr:=tn) h2 ht8
 have hpos:0<mostN a M ns tn zs kd X xs:=most_pos hM.pos ht1 he (by omega)
 have hone:∀ i,mostN a M ns tn zs 3 (gi xs i).toNat []≤6:=fun i=>most_one
 have hmo9:mostN a M ns tn zs kd X xs≤1000:=most_few (by have:=hM.pos;unfold lv;omega) (by unfold tv tq lv;have:=hM.pos;omega) h2 ht8 (by have:=hs.len;omega)
 obtain ⟨MO,hMOe⟩:∃ x,x=mostN a M ns tn zs kd X xs:=⟨_,rfl⟩
 simp only [← hMOe] at TMo hMO hup hmo9 hpos
 clear hMO
 simp only [he] at TC
 clear he
 have hMOp:((MO:Int) == 0)=false:=by simp;omega
 skip
 have e4:(kd == 4)=false:=by simp [h4]
 have e7:(kd == 7)=false:=by simp [h7]
 replace hone:=Lib.hid hone
 replace hup:=Lib.hid hup
 clear hMOe
 go_enter Tryz.func5,Tryz.ntmps5
 go_upto_region 1 with (fail)
 have L:=Loc.start w
 replace L:=((L).alloc #[.int .u32 (a:Int),.int .i64 p,.slice A n c,.int .i64 (ns:Int),.int .i64 wo,.int .i64 qu,.int .i64 (tn:Int)] 27).alloc #[.int .i64 kd,.int .u32 (X:Int),.slice A0 n0 c0] 30
 try simp only [World.size_alloc] at L
 try dsimp only [nput] at L
 generalize ((w).alloc (.cells #[.int .u32 (a:Int),.int .i64 p,.slice A n c,.int .i64 (ns:Int),.int .i64 wo,.int .i64 qu,.int .i64 (tn:Int)] 27)).alloc (.cells #[.int .i64 kd,.int .u32 (X:Int),.slice A0 n0 c0] 30)=w1 at L ⊢
 generalize w.heap.size+1=gQ at L ⊢
 generalize w.heap.size=gH at L ⊢
 go_wp2_with fail
 refine ((PS.awk (hW.below L.K))).mono ?_
 rintro e w2 ⟨rfl,K'⟩
 replace L:=L.over K'
 go_wp2_with (refine wpList_load_want (by rfl) 27 (.tmp 2) rfl gH rfl _ _ (0,0) _ (L.bk_ 1 rfl) Tryz.underlying27 rfl cf_sz ?_)
 refine (small21_any ha (h0.below L.K)).mono ?_
 rintro e w3 ⟨bo,rfl,-,K'⟩
 replace L:=L.over K'
 rcases bo with _ | _
 ·go_wp2_with fail
  refine (PS.awk (hW.below L.K)).mono ?_
  rintro e w90 ⟨rfl,K'⟩
  replace L:=L.over K'
  go_wp2
  go_ret
  exact ⟨rfl,L.K⟩
 go_wp2_with (refine wpList_load_want (by rfl) 30 (.tmp 3) rfl gQ rfl _ _ (0,0) _ (L.bk_ 0 rfl) Tryz.underlying30 rfl ak_sz ?_)
 refine ((few_yes (hs.below L.K) hf)).mono ?_
 rintro e w4 ⟨rfl,K'⟩
 replace L:=L.over K'
 go_wp2_with (first | (refine lC 2 (L.bk_ 1 rfl) ?_) | (refine wpList_load_row rfl 30 (.tmp 3) rfl gQ rfl _ _ (0,0) _ (L.bk_ 0 rfl) Tryz.underlying30 rfl ak_sz ?_))
 refine ((TMo _ (hW.below L.K) (h0.below L.K) (hs.below L.K)).out).mono ?_
 rintro e w5 ⟨rfl,K'⟩
 replace L:=L.over K'
 go_wp2_with (first | (refine lC 2 (L.bk_ 1 rfl) ?_) | (refine wpList_load_row rfl 30 (.tmp 3) rfl gQ rfl _ _ (0,0) _ (L.bk_ 0 rfl) Tryz.underlying30 rfl ak_sz ?_))
 refine ((TC _ (h0.below L.K) (hs.below L.K)).out).mono ?_
 rintro e w6 ⟨rfl,K'⟩
 replace L:=L.over K'
 have Q_0:=L.at_ 0 0 rfl (v:=.int .i64 kd) rfl
 have Q_z:=L.lt 0 rfl
 go_wp2_with fail
 clear Q_0 Q_z
 go_loopw [7,8] (fun sv iv wr=>sv=.int .i64 0∧iv=.int .i64 0∧Loc w wr [(gQ,30,#[.int .i64 kd,.int .u32 (X:Int),.slice A0 n0 c0]),(gH,27,#[.int .u32 (a:Int),.int .i64 p,.slice A n c,.int .i64 (ns:Int),.int .i64 wo,.int .i64 qu,.int .i64 (tn:Int)])] []) (fun _ iv _=>0)
 case atStart=>exact ⟨rfl,rfl,L⟩
 case round =>
  clear L
  obtain ⟨rfl,rfl,L⟩:=hrel
  by_cases hz:(0:Int)<(n0:Int)
  all_goals (
   obtain ⟨n2,hn2,hn2a,hn2b⟩:∃ x:Nat,min (64:Int) ((ns:Int)+1)=(x:Int)∧x≤64∧ns≤x:=⟨(min (64:Int) ((ns:Int)+1)).toNat,by omega,by omega,by omega⟩
   obtain ⟨t2,ht2,ht2a,ht2b⟩:∃ x:Nat,min (8:Int) ((tn:Int)+1)=(x:Int)∧x≤8∧tn≤x:=⟨(min (8:Int) ((tn:Int)+1)).toNat,by omega,by omega,by omega⟩
   have en:IntKind.i64.wrap ((ns:Int)+1)=(ns:Int)+1:=IntWalk.i64_in _ (by omega)
   have et:IntKind.i64.wrap ((tn:Int)+1)=(tn:Int)+1:=IntWalk.i64_in _ (by omega)
   have TM4:=TM2
   have hup2:=hup.out n2 t2 hn2b ht2b
   have TM5:=fun w hW hZ hI=>TM2 w n2 t2 hn2a ht2a hW hZ hI
   obtain ⟨M2,hM2⟩:∃ q,q=mostN a M n2 t2 zs kd X xs:=⟨_,rfl⟩
   simp only [← hM2] at TM5 hup2
   have hge:decide ((M2:Int) ≥ (MO:Int))=true:=decide_eq_true (by omega)
   clear hM2 TM2 TM4 hup
   have Q_2:=L.at_ 0 2 rfl (v:=.slice A0 n0 c0) rfl
   have Q_0:=L.at_ 0 0 rfl (v:=.int .i64 kd) rfl
   have Q_z:=L.lt 0 rfl
   go_upto_region 15 with (first | (refine lC 2 (L.bk_ 1 rfl) ?_) | (refine wpList_store_row rfl 27 (.tmp 9) (.tmp 77) rfl _ _ rfl (show _=Value.agg (#[.int .u32 (a:Int),.int .i64 p,.slice A n c,.int .i64 (ns:Int),.int .i64 wo,.int .i64 qu,.int .i64 (tn:Int)]) from rfl) _ _ (Bk.new _ _ _) cf_sz rfl (by simp [Value.oneCell']) ?_))
   clear Q_2 Q_0 Q_z
   try rw [World.setRow_alloc_new]
   replace L:=(L).alloc #[.int .u32 (a:Int),.int .i64 p,.slice A n c,.int .i64 (ns:Int),.int .i64 wo,.int .i64 qu,.int .i64 (tn:Int)] 27
   try simp only [World.size_alloc] at L
   try dsimp only [nput] at L
   generalize (wr).alloc (.cells #[.int .u32 (a:Int),.int .i64 p,.slice A n c,.int .i64 (ns:Int),.int .i64 wo,.int .i64 qu,.int .i64 (tn:Int)] 27)=w7 at L ⊢
   generalize wr.heap.size=gD at L ⊢
   have H_3:=L.at_ 2 3 rfl (v:=.int .i64 (ns:Int)) rfl
   have D_3:=L.at_ 0 3 rfl (v:=.int .i64 (ns:Int)) rfl
   have H_z:=L.lt 2 rfl
   have D_z:=L.lt 0 rfl
   have D_f3:=L.fz 0 3 rfl
   have ne_D_H:=L.ne_ 0 2 rfl rfl (by decide)
   go_upto_region 16 with fail
   clear H_3 D_3 H_z D_z D_f3 ne_D_H
   replace L:=((L.set 0 3 rfl (.int .i64 (n2:Int))).is 0 (#[.int .u32 (a:Int),.int .i64 p,.slice A n c,.int .i64 (n2:Int),.int .i64 wo,.int .i64 qu,.int .i64 (tn:Int)]) rfl)
   try dsimp only [nput] at L
   generalize (w7).setCell ⟨gD,3,none⟩ (.int .i64 (n2:Int))=w8 at L ⊢
   have H_6:=L.at_ 2 6 rfl (v:=.int .i64 (tn:Int)) rfl
   have D_6:=L.at_ 0 6 rfl (v:=.int .i64 (tn:Int)) rfl
   have H_z:=L.lt 2 rfl
   have D_z:=L.lt 0 rfl
   have D_f6:=L.fz 0 6 rfl
   have ne_D_H:=L.ne_ 0 2 rfl rfl (by decide)
   go_upto_region 17 with fail
   clear H_6 D_6 H_z D_z D_f6 ne_D_H
   replace L:=((L.set 0 6 rfl (.int .i64 (t2:Int))).is 0 (#[.int .u32 (a:Int),.int .i64 p,.slice A n c,.int .i64 (n2:Int),.int .i64 wo,.int .i64 qu,.int .i64 (t2:Int)]) rfl)
   try dsimp only [nput] at L
   generalize (w8).setCell ⟨gD,6,none⟩ (.int .i64 (t2:Int))=w9 at L ⊢
   go_wp2_with (first | (refine lC 9 (L.bk_ 0 rfl) ?_) | (refine wpList_load_row rfl 30 (.tmp 3) rfl gQ rfl _ _ (0,0) _ (L.bk_ 1 rfl) Tryz.underlying30 rfl ak_sz ?_))
   refine ((TM5 _ (hW.below L.K) (h0.below L.K) (hs.below L.K)).out).mono ?_
   rintro e w10 ⟨rfl,K'⟩
   replace L:=L.over K'
   go_wp2
   go_ret
   exact ⟨rfl,L.K⟩)
theorem far1 (PS:PoolSays) (hW:Laid w) (ha:a<4294967296) (h0:IS .i64 lo w A n c zs) (hs:IS .u32 lo2 w A0 n0 c0 xs) (hX:X<4294967296) (hw:W32 xs) (hno:¬ ((∃ M ns,Cg a p n zs sh M ns)∧1≤tr∧tr≤8)) :
  Calls Tryz.prog 5 #[.agg #[.int .u32 (a:Int),.int .i64 p,.slice A n c,.int .i64 sh,.int .i64 wo,.int .i64 qu,.int .i64 tr],.agg #[.int .i64 kd,.int .u32 (X:Int),.slice A0 n0 c0]] w (RetBo true w):=by
 go_enter Tryz.func5,Tryz.ntmps5
 go_upto_region 1 with (fail)
 have L:=Loc.start w
 replace L:=((L).alloc #[.int .u32 (a:Int),.int .i64 p,.slice A n c,.int .i64 sh,.int .i64 wo,.int .i64 qu,.int .i64 tr] 27).alloc #[.int .i64 kd,.int .u32 (X:Int),.slice A0 n0 c0] 30
 try simp only [World.size_alloc] at L
 try dsimp only [nput] at L
 generalize ((w).alloc (.cells #[.int .u32 (a:Int),.int .i64 p,.slice A n c,.int .i64 sh,.int .i64 wo,.int .i64 qu,.int .i64 tr] 27)).alloc (.cells #[.int .i64 kd,.int .u32 (X:Int),.slice A0 n0 c0] 30)=w1 at L ⊢
 generalize w.heap.size+1=gQ at L ⊢
 generalize w.heap.size=gH at L ⊢
 go_wp2_with fail
 refine ((PS.awk (hW.below L.K))).mono ?_
 rintro e w2 ⟨rfl,K'⟩
 replace L:=L.over K'
 go_wp2_with (refine wpList_load_want (by rfl) 27 (.tmp 2) rfl gH rfl _ _ (0,0) _ (L.bk_ 1 rfl) Tryz.underlying27 rfl cf_sz ?_)
 refine (small21_any ha (h0.below L.K)).mono ?_
 rintro e w3 ⟨bo,rfl,hB,K'⟩
 replace L:=L.over K'
 rcases bo with _ | _
 ·clear hB
  go_wp2_with fail
  refine (PS.awk (hW.below L.K)).mono ?_
  rintro e w92 ⟨rfl,K'⟩
  replace L:=L.over K'
  go_wp2
  go_ret
  exact ⟨rfl,L.K⟩
 replace hB:=hB rfl
 exact absurd hB hno
theorem main (PS:PoolSays) (hW:Laid w) (ha:a<4294967296) (h0:IS .i64 lo w A n c zs) (hs:IS .u32 lo2 w A0 n0 c0 xs) (hX:X<4294967296) (hw:W32 xs) :
  Calls Tryz.prog 5 #[.agg #[.int .u32 (a:Int),.int .i64 p,.slice A n c,.int .i64 sh,.int .i64 wo,.int .i64 qu,.int .i64 tr],.agg #[.int .i64 kd,.int .u32 (X:Int),.slice A0 n0 c0]] w (RetBo true w):=by
 by_cases hf:n0≤100
 ·by_cases hno:(∃ M ns,Cg a p n zs sh M ns)∧1≤tr∧tr≤8
  ·obtain ⟨⟨M,ns,hC⟩,ht1,ht8⟩:=hno
   obtain ⟨tn,htn⟩:∃ tn:Nat,tr=(tn:Int):=⟨tr.toNat,by omega⟩
   subst htn
   have hshe:=hC.ns_
   subst hshe
   have hM:=hC.much
   by_cases he:askE a M zs kd (X:Int) xs=0
   ·by_cases h7:kd=7
    ·exact mo_c PS hW ha h0 hs hX hw hM hC.ns1 hC.ns2 (by omega) (by omega) hC.few hC.sml hf he h7
    ·by_cases h4:kd=4
     ·exact mo_d PS hW ha h0 hs hX hw hM hC.ns1 hC.ns2 (by omega) (by omega) hC.few hC.sml hf he h4
     ·exact mo_e PS hW ha h0 hs hX hw hM hC.ns1 hC.ns2 (by omega) (by omega) hC.few hC.sml hf he h7 h4
   ·by_cases h4:kd=4
    ·exact mo_a PS hW ha h0 hs hX hw hM hC.ns1 hC.ns2 (by omega) (by omega) hC.few hC.sml hf he h4
    ·exact mo_b PS hW ha h0 hs hX hw hM hC.ns1 hC.ns2 (by omega) (by omega) hC.few hC.sml hf he h4
  ·exact far1 PS hW ha h0 hs hX hw hno
 ·exact far0 PS hW ha h0 hs hX hw hf
end
end Go.Proofs.YtfhefofkhmkcnaaGreatDoor.poolMost
