/-
  What the functions that these laws call answer, and what follows of it; conditions: those that each theorem names. In this file: PoolAwake, SpecLeg, SnStep, SnLeft, PoolDo, PoolMo.
-/
import Derived.Test.YtfhefofkhmkcnaaGreatDoorPl16
import Derived.Deep.DeepCutAuto
/-
 The anchor of layer 21's laws answers true. Conditions: what pool's functions answer.
-/
namespace Go.Proofs.YtfhefofkhmkcnaaGreatDoor
set_option maxRecDepth 100000
set_option maxRecDepth 100000
set_option maxRecDepth 100000
open Go.RowKit
set_option maxHeartbeats 8000000
set_option linter.unusedVariables false
theorem much21:Much 4 30 4:=⟨by decide +kernel,by decide +kernel⟩
theorem bi21 {k:IntKind} {w:World} {g:Nat} {t:TypeId} {xs:List Int} {n:Nat} (h:Bi k w g t xs) (hn:xs.length=n) (hm:n≤65536):IS k 0 w (some ⟨g,0,none⟩) n n xs :=
 ⟨hn,Nat.le_refl _,by unfold maxLen;omega,(fun e=>by cases e),fun _=>⟨g,0,rfl,Nat.zero_le _,Bk.lt h,fun j hj=>by rw [Nat.zero_add];exact h.cell (by omega)⟩⟩
/-- A request that is answered at once. -/
theorem pbg_wrong {k:Int} {X:Nat} {s:Sc} {l:Ls} {b:Bool} {e:Int} (hq:askE 4 4 [0] k (X:Int) []=e) (he:e≠0∨k=7) (hl:l.rqs=[]) (h:PBg 4 4 1 2 [0] k X [] s l b):b=true∧s.err=e∧(s.phase=0∧s.kind=k)∧l=⟨[],[],[],[]⟩:=by
 rcases h with ⟨h1,_,⟨h3,h4,h6⟩,h5⟩ | ⟨_,h1,h2,_⟩
 ·rw [hq] at h5
  have q1:l.ads=[]:=congrArg (fun x:An=>x.2.2.2.1) h5
  have q2:l.ers=[]:=congrArg (fun x:An=>x.2.2.2.2) h5
  refine ⟨h1,congrArg (fun x:An=>x.1) h5,⟨h3,h6⟩,?_⟩
  rcases l with ⟨x1,x2,x3,x4⟩
  dsimp only at hl q1 q2 h4
  rw [hl,q1,q2,h4]
 ·rw [hq] at h1
  rcases he with he | he
  ·exact absurd h1 he
  ·exact absurd he h2
theorem pbg_grant {X:Nat} {s:Sc} {l:Ls} {b:Bool} (h:PBg 4 4 1 2 [0] 1 X [] s l b):b=false∧s.phase=1:=by
 rcases h with ⟨_,h1,_⟩ | ⟨h1,_,_,_,h2,_⟩
 ·rcases h1 with h1 | h1
  ·exact absurd (askE_free (.inl rfl)) h1
  ·omega
 ·exact ⟨h1,h2 rfl⟩
theorem mo21:mostN 4 4 1 2 [0] 1 0 []=12∧mostN 4 4 1 2 [0] 6 0 []=4∧mostN 4 4 1 2 [0] 7 0 []=0∧mostN 4 4 1 2 [0] 5 5 []=6:=by decide +kernel
theorem as21:askE 4 4 [0] 3 ((4:Nat):Int) []=4∧askE 4 4 [0] 7 ((0:Nat):Int) []=0:=by decide +kernel
theorem PoolSays.awk {w:World} (PS:PoolSays) (hW:Laid w) :
  Calls Tryz.prog 7 #[] w fun e w'=>e=.returned (.bool true)∧Below w.heap.size w w':=by
 go_enter Tryz.func7,Tryz.ntmps7
 go_upto_region 2 with (refine wpList_store_row rfl 27 (.tmp 1) (.tmp 14) rfl _ _ rfl (show _=Value.agg #[.int .u32 4,.int .i64 30,.slice (some ⟨w.heap.size,0,none⟩) 1 1,.int .i64 1,.int .i64 1,.int .i64 1,.int .i64 2] from rfl) _ _ (Bk.new _ _ _) cf_sz rfl (by simp [Value.oneCell']) ?_)
 have L:=((Loc.start w).alloc #[.int .i64 0] 3).alloc #[.int .u32 4,.int .i64 30,.slice (some ⟨w.heap.size,0,none⟩) 1 1,.int .i64 1,.int .i64 1,.int .i64 1,.int .i64 2] 27
 try simp only [World.size_alloc] at L
 generalize (w.alloc (.cells #[.int .i64 0] 3)).alloc (.cells #[.int .u32 4,.int .i64 30,.slice (some ⟨w.heap.size,0,none⟩) 1 1,.int .i64 1,.int .i64 1,.int .i64 1,.int .i64 2] 27)=w1 at L ⊢
 generalize w.heap.size+1=gC at L ⊢
 generalize w.heap.size=gY at L ⊢
 go_wp2_with (refine lC 1 (L.bk_ 0 rfl) ?_)
 refine (PS.beg (a:=4) (M:=4) (n:=1) (hd:=0) (ns:=1) (tr:=2) (zs:=[0]) (X:=4) (hW.below L.K) (by omega) much21 (by omega) (by omega) (bi21 (n:=1) (xs:=[0]) (L.bk_ 1 rfl) rfl (by omega)) (by omega) (by omega) (by omega) (by omega) (IS.none_ .u32 0 _) (by omega) (by intro y hy;cases hy)).mono ?_
 rintro e w2 ⟨h1,s1,l1,b1,rfl,L',lq1,hPB,K'⟩
 have Lb:=L.lts
 replace L:=L.over K'
 replace L:=L.of_new Lb L'
 clear Lb
 try dsimp only [lF,List.cons_append,List.nil_append] at L
 clear L'
 obtain ⟨eb1,er1,⟨ep1,ek1⟩,el1⟩:=pbg_wrong (e:=4) as21.1 (.inl (by omega)) lq1 hPB
 replace ek1:=Lib.hid ek1
 subst eb1
 clear hPB lq1
 subst el1
 go_upto_region 3 with (refine wpList_store_row rfl 43 (.tmp 2) (.tmp 19) rfl _ _ rfl (show _=Value.agg (opv h1 s1) from rfl) _ _ (Bk.new _ _ _) op_sz rfl (opv_one _ _) ?_)
 try rw [World.setRow_alloc_new]
 replace L:=(L).alloc (opv h1 s1) 43
 try simp only [World.size_alloc] at L
 try dsimp only [nput] at L
 generalize (w2).alloc (.cells (opv h1 s1) 43)=w3 at L ⊢
 generalize w2.heap.size=gO at L ⊢
 go_wp2_with (refine lC 1 (L.bk_ 1 rfl) ?_)
 refine (PS.beg (a:=4) (M:=4) (n:=1) (hd:=0) (ns:=1) (tr:=2) (zs:=[0]) (X:=0) (hW.below L.K) (by omega) much21 (by omega) (by omega) (bi21 (n:=1) (xs:=[0]) (L.bk_ 2 rfl) rfl (by omega)) (by omega) (by omega) (by omega) (by omega) (IS.none_ .u32 0 _) (by omega) (by intro y hy;cases hy)).mono ?_
 rintro e w4 ⟨h2,s2,l2,b2,rfl,L',lq2,hPB,K'⟩
 have Lb:=L.lts
 replace L:=L.over K'
 replace L:=L.of_new Lb L'
 clear Lb
 try dsimp only [lF,List.cons_append,List.nil_append] at L
 clear L'
 obtain ⟨eb2,er2,⟨ep2,-⟩,el2⟩:=pbg_wrong (e:=0) as21.2 (.inr rfl) lq2 hPB
 subst eb2
 clear hPB lq2
 subst el2
 go_upto_region 4 with (refine wpList_store_row rfl 43 (.tmp 4) (.tmp 25) rfl _ _ rfl (show _=Value.agg (opv h2 s2) from rfl) _ _ (Bk.new _ _ _) op_sz rfl (opv_one _ _) ?_)
 try rw [World.setRow_alloc_new]
 replace L:=(L).alloc (opv h2 s2) 43
 try simp only [World.size_alloc] at L
 try dsimp only [nput] at L
 generalize (w4).alloc (.cells (opv h2 s2) 43)=w5 at L ⊢
 generalize w4.heap.size=gP at L ⊢
 go_wp2_with (refine lC 1 (L.bk_ 2 rfl) ?_)
 refine (PS.beg (a:=4) (M:=4) (n:=1) (hd:=0) (ns:=1) (tr:=2) (zs:=[0]) (X:=0) (hW.below L.K) (by omega) much21 (by omega) (by omega) (bi21 (n:=1) (xs:=[0]) (L.bk_ 3 rfl) rfl (by omega)) (by omega) (by omega) (by omega) (by omega) (IS.none_ .u32 0 _) (by omega) (by intro y hy;cases hy)).mono ?_
 rintro e w6 ⟨h3,s3,l3,b3,rfl,L',lq3,hPB,K'⟩
 have Lb:=L.lts
 replace L:=L.over K'
 replace L:=L.of_new Lb L'
 clear Lb
 try dsimp only [lF,List.cons_append,List.nil_append] at L
 clear L'
 obtain ⟨eb3,ep3⟩:=pbg_grant hPB
 subst eb3
 clear hPB lq3
 go_upto_region 5 with (refine wpList_store_row rfl 43 (.tmp 6) (.tmp 31) rfl _ _ rfl (show _=Value.agg (opv h3 s3) from rfl) _ _ (Bk.new _ _ _) op_sz rfl (opv_one _ _) ?_)
 try rw [World.setRow_alloc_new]
 replace L:=(L).alloc (opv h3 s3) 43
 try simp only [World.size_alloc] at L
 try dsimp only [nput] at L
 generalize (w6).alloc (.cells (opv h3 s3) 43)=w7 at L ⊢
 generalize w6.heap.size=gS at L ⊢
 replace L:=L.only (fs':=[oF h1 ⟨[],[],[],[]⟩]) (by simp)
 have TV:=fun w (h:IS .i64 0 w (some ⟨gY,0,none⟩) 1 1 [0])=>wcells_new (w:=w) (a:=4) (p:=30) (M:=4) (lo:=0) (xs:=[0]) (sh:=1) (wo:=1) (qu:=1) (tr:=2) (by omega) much21 h (by omega) (by decide +kernel)
 simp only [show lv 4+tv 4+1=3 from by decide +kernel] at TV
 have TW:=fun w h=>Lib.hid (TV w h)
 clear TV
 try simp only [Act.put,sA,sZ,sS]
 go_cut [8,9,10] from 33 to 41 (fun q_0 q_1 q_2 wx=>∃ (gT:Nat) (h4:Hd) (B4:Option Addr) (d4:Nat),(True)∧q_0=Value.slice B4 3 d4∧q_1=Value.pointer (some ⟨gT,0,none⟩)∧q_2=Value.bool false∧Loc w wx [(gT,43,opv h4 s1),(gS,43,opv h3 s3),(gP,43,opv h2 s2),(gO,43,opv h1 s1),(gC,27,#[.int .u32 4,.int .i64 30,.slice (some ⟨gY,0,none⟩) 1 1,.int .i64 1,.int .i64 1,.int .i64 1,.int .i64 2]),(gY,3,#[.int .i64 0])] [oF h4 ⟨[],[],[],[]⟩,oF h1 ⟨[],[],[],[]⟩])
 case first =>
  refine rg L fun v8 hHeld=>?_
  replace L:=hHeld
  refine tR 0 34 1 3 rfl rfl Tryz.underlying27 cf_sz hHeld ?_
  refine tR 1 35 1 3 rfl rfl Tryz.underlying27 cf_sz hHeld ?_
  refine tR 3 37 2 2 rfl rfl Tryz.underlying43 op_sz hHeld ?_
  refine wpAnyH_ready (rs:=[2,9]) (by kernel_rfl) (by simp) ?_
  refine (AllReadyH.cons (o:=⟨some 36,_,_,_,_,_⟩) rfl (fun K0 hK=>?_) (AllReadyH.cons (o:=⟨some 9,_,_,_,_,_⟩) rfl (fun K0 hK=>?_) AllReadyH.nil))
  ·go_simp
   refine ((TW _ (bi21 (n:=1) (xs:=[0]) (L.bk_ 4 rfl) rfl (by omega))).out).mono ?_
   rintro e w9 ⟨gU,dU,rfl,U,hgU,K'⟩
   have Lb:=L.lts
   replace L:=L.over K'
   replace L:=L.us_av (fun i b e b' o e'=>by injection e' with e';injection e' with e1;have:=Lb i b e;omega) U
   clear Lb
   try dsimp only [lF,List.cons_append,List.nil_append] at L
   clear U hgU
   refine hK.out _ _ (L.less 1) ?_
   clear hHeld hK K0
   intro hHeld
   clear K'
   try simp only [Act.put,sA,sZ,sS]
   refine wpAnyH_ready (rs:=[4,9]) (by kernel_rfl) (by simp) ?_
   refine (AllReadyH.cons (o:=⟨some 38,_,_,_,_,_⟩) rfl (fun K0 hK=>?_) (AllReadyH.cons (o:=⟨some 9,_,_,_,_,_⟩) rfl (fun K0 hK=>?_) AllReadyH.nil))
   ·have hE1:=(L.of_ 1 rfl).emp_
    have hE2:h1.n0=0∧h1.n1=0∧h1.n2=0∧h1.n3=0:=hE1
    go_simp
    refine (PS.don (ns:=1) (tr:=2) (L.us_ 0 rfl) (by omega) (L.of_ 1 rfl) (by omega) (by omega) (by omega) (by omega) ep1 ek1.out).mono ?_
    rintro e w10 ⟨h4,B4,d4,rfl,-,L',-,K'⟩
    have Lb:=L.lts
    replace L:=L.over K'
    replace L:=L.of_new Lb L'
    clear Lb
    try dsimp only [lF,List.cons_append,List.nil_append] at L
    clear L' hE1 hE2
    refine hK.out _ _ (L.less 2) ?_
    clear hHeld hK K0
    intro hHeld
    clear K'
    try simp only [Act.put,sA,sZ,sS]
    refine tz 5 33 rfl hHeld ?_
    refine tg 6 39 (.slice B4 3 d4) rfl hHeld ?_
    refine tg 7 40 (.agg (opv h4 s1)) rfl hHeld ?_
    refine tg 8 41 (.bool false) rfl hHeld ?_
    refine rd 9 9 rfl fun K0 hK=>?_
    go_simp
    refine hK.out _ _ ((L.other _).less 2) ?_
    clear hHeld hK K0
    intro hHeld
    replace L:=L.alloc #[.int .i64 0,.int .u32 0,.slice none 0 0,.int .i64 0,.int .u32 0,.bool false,.slice none 0 0,.slice none 0 0,.int .i64 0,.int .i64 0,.int .i64 0,.int .i64 0,.int .i64 0,.int .u64 0,.bool false,.slice none 0 0,.int .i64 0,.int .i64 0,.int .i64 0,.int .i64 0] 43
    replace L:=L.is0 (opv hd0 sc0) rfl
    generalize w10.alloc (.cells #[.int .i64 0,.int .u32 0,.slice none 0 0,.int .i64 0,.int .u32 0,.bool false,.slice none 0 0,.slice none 0 0,.int .i64 0,.int .i64 0,.int .i64 0,.int .i64 0,.int .i64 0,.int .u64 0,.bool false,.slice none 0 0,.int .i64 0,.int .i64 0,.int .i64 0,.int .i64 0] 43)=v11 at hHeld L ⊢
    generalize w10.heap.size=gT at L ⊢
    try simp only [Act.put,sA,sZ,sS]
    refine tg 10 8 (.slice B4 3 d4) rfl hHeld ?_
    refine rn 11 rfl fun K0 hK=>?_
    rw [if_pos (by rfl)]
    refine wp_store_row 43 (.tmp 9) (.tmp 40) rfl gT _ rfl rfl _ _ (L.bk_ 0 rfl) op_sz rfl (opv_one _ _) ?_
    replace L:=L.row 0 rfl (opv h4 s1)
    try dsimp only [nput] at L
    refine hK.out _ _ ((L.less 2).del 0) ?_
    clear hHeld hK K0
    intro hHeld
    generalize v11.setRow gT (opv h4 s1)=v12 at hHeld L ⊢
    try simp only [Act.put]
    refine tg 12 10 (.bool false) rfl hHeld ?_
    refine wpAnyH_done (by kernel_rfl) ?_ _
    clear hHeld
    go_wp2
    replace L:=L.only (fs':=[oF h4 ⟨[],[],[],[]⟩,oF h1 ⟨[],[],[],[]⟩]) (by simp)
    go_meet
    exact ⟨_,_,_,_,trivial,rfl,rfl,rfl,L⟩
   ·go_simp
    refine hK.out _ _ ((L.other _).less 1) ?_
    clear hHeld hK K0
    intro hHeld
    replace L:=L.alloc #[.int .i64 0,.int .u32 0,.slice none 0 0,.int .i64 0,.int .u32 0,.bool false,.slice none 0 0,.slice none 0 0,.int .i64 0,.int .i64 0,.int .i64 0,.int .i64 0,.int .i64 0,.int .u64 0,.bool false,.slice none 0 0,.int .i64 0,.int .i64 0,.int .i64 0,.int .i64 0] 43
    replace L:=L.is0 (opv hd0 sc0) rfl
    generalize w9.alloc (.cells #[.int .i64 0,.int .u32 0,.slice none 0 0,.int .i64 0,.int .u32 0,.bool false,.slice none 0 0,.slice none 0 0,.int .i64 0,.int .i64 0,.int .i64 0,.int .i64 0,.int .i64 0,.int .u64 0,.bool false,.slice none 0 0,.int .i64 0,.int .i64 0,.int .i64 0,.int .i64 0] 43)=v10 at hHeld L ⊢
    generalize w9.heap.size=gT at L ⊢
    try simp only [Act.put,sA,sZ,sS]
    refine rd 4 38 rfl fun K0 hK=>?_
    have hE1:=(L.of_ 1 rfl).emp_
    have hE2:h1.n0=0∧h1.n1=0∧h1.n2=0∧h1.n3=0:=hE1
    go_simp
    refine (PS.don (ns:=1) (tr:=2) (L.us_ 0 rfl) (by omega) (L.of_ 1 rfl) (by omega) (by omega) (by omega) (by omega) ep1 ek1.out).mono ?_
    rintro e w11 ⟨h4,B4,d4,rfl,-,L',-,K'⟩
    have Lb:=L.lts
    replace L:=L.over K'
    replace L:=L.of_new Lb L'
    clear Lb
    try dsimp only [lF,List.cons_append,List.nil_append] at L
    clear L' hE1 hE2
    refine hK.out _ _ ((L.less 2).del 0) ?_
    clear hHeld hK K0
    intro hHeld
    clear K'
    try simp only [Act.put,sA,sZ,sS]
    refine tz 5 33 rfl hHeld ?_
    refine tg 6 39 (.slice B4 3 d4) rfl hHeld ?_
    refine tg 7 40 (.agg (opv h4 s1)) rfl hHeld ?_
    refine tg 8 41 (.bool false) rfl hHeld ?_
    refine tg 10 8 (.slice B4 3 d4) rfl hHeld ?_
    refine rn 11 rfl fun K0 hK=>?_
    rw [if_pos (by rfl)]
    refine wp_store_row 43 (.tmp 9) (.tmp 40) rfl gT _ rfl rfl _ _ (L.bk_ 0 rfl) op_sz rfl (opv_one _ _) ?_
    replace L:=L.row 0 rfl (opv h4 s1)
    try dsimp only [nput] at L
    refine hK.out _ _ ((L.less 2).del 0) ?_
    clear hHeld hK K0
    intro hHeld
    generalize w11.setRow gT (opv h4 s1)=v12 at hHeld L ⊢
    try simp only [Act.put]
    refine tg 12 10 (.bool false) rfl hHeld ?_
    refine wpAnyH_done (by kernel_rfl) ?_ _
    clear hHeld
    go_wp2
    replace L:=L.only (fs':=[oF h4 ⟨[],[],[],[]⟩,oF h1 ⟨[],[],[],[]⟩]) (by simp)
    go_meet
    exact ⟨_,_,_,_,trivial,rfl,rfl,rfl,L⟩
  ·go_simp
   refine hK.out _ _ (L.other _) ?_
   clear hHeld hK K0
   intro hHeld
   replace L:=L.alloc #[.int .i64 0,.int .u32 0,.slice none 0 0,.int .i64 0,.int .u32 0,.bool false,.slice none 0 0,.slice none 0 0,.int .i64 0,.int .i64 0,.int .i64 0,.int .i64 0,.int .i64 0,.int .u64 0,.bool false,.slice none 0 0,.int .i64 0,.int .i64 0,.int .i64 0,.int .i64 0] 43
   replace L:=L.is0 (opv hd0 sc0) rfl
   generalize v8.alloc (.cells #[.int .i64 0,.int .u32 0,.slice none 0 0,.int .i64 0,.int .u32 0,.bool false,.slice none 0 0,.slice none 0 0,.int .i64 0,.int .i64 0,.int .i64 0,.int .i64 0,.int .i64 0,.int .u64 0,.bool false,.slice none 0 0,.int .i64 0,.int .i64 0,.int .i64 0,.int .i64 0] 43)=v9 at hHeld L ⊢
   generalize v8.heap.size=gT at L ⊢
   try simp only [Act.put,sA,sZ,sS]
   refine rd 2 36 rfl fun K0 hK=>?_
   go_simp
   refine ((TW _ (bi21 (n:=1) (xs:=[0]) (L.bk_ 5 rfl) rfl (by omega))).out).mono ?_
   rintro e w10 ⟨gU,dU,rfl,U,hgU,K'⟩
   have Lb:=L.lts
   replace L:=L.over K'
   replace L:=L.us_av (fun i b e b' o e'=>by injection e' with e';injection e' with e1;have:=Lb i b e;omega) U
   clear Lb
   try dsimp only [lF,List.cons_append,List.nil_append] at L
   clear U hgU
   refine hK.out _ _ ((L.less 1).del 0) ?_
   clear hHeld hK K0
   intro hHeld
   clear K'
   try simp only [Act.put,sA,sZ,sS]
   refine rd 4 38 rfl fun K0 hK=>?_
   have hE1:=(L.of_ 1 rfl).emp_
   have hE2:h1.n0=0∧h1.n1=0∧h1.n2=0∧h1.n3=0:=hE1
   go_simp
   refine (PS.don (ns:=1) (tr:=2) (L.us_ 0 rfl) (by omega) (L.of_ 1 rfl) (by omega) (by omega) (by omega) (by omega) ep1 ek1.out).mono ?_
   rintro e w11 ⟨h4,B4,d4,rfl,-,L',-,K'⟩
   have Lb:=L.lts
   replace L:=L.over K'
   replace L:=L.of_new Lb L'
   clear Lb
   try dsimp only [lF,List.cons_append,List.nil_append] at L
   clear L' hE1 hE2
   refine hK.out _ _ ((L.less 2).del 0) ?_
   clear hHeld hK K0
   intro hHeld
   clear K'
   try simp only [Act.put,sA,sZ,sS]
   refine tz 5 33 rfl hHeld ?_
   refine tg 6 39 (.slice B4 3 d4) rfl hHeld ?_
   refine tg 7 40 (.agg (opv h4 s1)) rfl hHeld ?_
   refine tg 8 41 (.bool false) rfl hHeld ?_
   refine tg 10 8 (.slice B4 3 d4) rfl hHeld ?_
   refine rn 11 rfl fun K0 hK=>?_
   rw [if_pos (by rfl)]
   refine wp_store_row 43 (.tmp 9) (.tmp 40) rfl gT _ rfl rfl _ _ (L.bk_ 0 rfl) op_sz rfl (opv_one _ _) ?_
   replace L:=L.row 0 rfl (opv h4 s1)
   try dsimp only [nput] at L
   refine hK.out _ _ ((L.less 2).del 0) ?_
   clear hHeld hK K0
   intro hHeld
   generalize w11.setRow gT (opv h4 s1)=v12 at hHeld L ⊢
   try simp only [Act.put]
   refine tg 12 10 (.bool false) rfl hHeld ?_
   refine wpAnyH_done (by kernel_rfl) ?_ _
   clear hHeld
   go_wp2
   replace L:=L.only (fs':=[oF h4 ⟨[],[],[],[]⟩,oF h1 ⟨[],[],[],[]⟩]) (by simp)
   go_meet
   exact ⟨_,_,_,_,trivial,rfl,rfl,rfl,L⟩
 case rest =>
  clear L
  obtain ⟨gT,h4,B4,d4,-,rfl,rfl,rfl,L⟩:=hcut
  clear TW
  go_wp2_with fail
  replace L:=(L).alloc #[.int .i64 0,.int .i64 6] 37
  try simp only [World.size_alloc] at L
  try dsimp only [nput] at L
  generalize (wc).alloc (.cells #[.int .i64 0,.int .i64 6] 37)=w13 at L ⊢
  generalize wc.heap.size=gY43 at L ⊢
  have hLp:Lists 0 w13 ⟨none,0,0,none,0,0,some ⟨gY43,0,none⟩,2,2,none,0,0⟩ ⟨[],[],[0,6],[]⟩:=⟨IS.none_ _ _ _,IS.none_ _ _ _,bi21 (n:=2) (xs:=[0,6]) (L.bk_ 0 rfl) rfl (by omega),IS.none_ _ _ _⟩
  have RT:=PS.tol (s:=⟨4,0,0,0,false,0,0,0,0,0,0,false,0,0,0,0⟩) hLp (by show 0≤60000;omega) (by show 0≤65536;omega) (by show 2≤60000;omega) (by show 0≤65000;omega)
  rw [show tld ⟨4,0,0,0,false,0,0,0,0,0,0,false,0,0,0,0⟩ ⟨[],[],[0,6],[]⟩=an0 6 from by unfold tld;rw [if_pos ⟨rfl,by simp⟩];rfl] at RT
  clear hLp
  refine (RT).mono ?_
  rintro e w14 ⟨X1,aX1,bX1,X2,aX2,bX2,rfl,I1,I2,K'⟩
  replace L:=L.over K'
  have e0:aX2=0:=I2.len.symm
  subst e0
  clear I1 I2 RT
  go_upto_region 7 with (refine wpList_store_row rfl 40 (.tmp 11) (.tmp 46) rfl _ _ rfl (show _=Value.agg (#[.int .i64 6,.int .u32 0,.bool false,.slice X1 aX1 bX1,.slice X2 0 bX2]) from rfl) _ _ (Bk.new _ _ _) an_sz rfl (by simp [Value.oneCell']) ?_)
  try rw [World.setRow_alloc_new]
  replace L:=(L).alloc #[.int .i64 6,.int .u32 0,.bool false,.slice X1 aX1 bX1,.slice X2 0 bX2] 40
  try simp only [World.size_alloc] at L
  try dsimp only [nput] at L
  generalize (w14).alloc (.cells #[.int .i64 6,.int .u32 0,.bool false,.slice X1 aX1 bX1,.slice X2 0 bX2] 40)=w15 at L ⊢
  generalize w14.heap.size=gV at L ⊢
  have O_3:=L.at_ 5 3 rfl (v:=.int .i64 4) (by show some (Value.int .i64 s1.err)=_;rw [er1])
  have O_z:=L.lt 5 rfl
  have O_8:=L.at_ 5 8 rfl (v:=.int .i64 0) (by show some (Value.int .i64 s1.phase)=_;rw [ep1])
  have O_z:=L.lt 5 rfl
  have P_3:=L.at_ 4 3 rfl (v:=.int .i64 0) (by show some (Value.int .i64 s2.err)=_;rw [er2])
  have P_z:=L.lt 4 rfl
  have S_8:=L.at_ 3 8 rfl (v:=.int .i64 1) (by show some (Value.int .i64 s3.phase)=_;rw [ep3])
  have S_z:=L.lt 3 rfl
  repeat (first | (refine wpList_load_want (by rfl) 43 (.tmp 9) rfl gT rfl _ _ (0,0) _ (L.bk_ 2 rfl) Tryz.underlying43 rfl op_sz ?_) | (refine wpList_load_want (by rfl) 43 (.tmp 2) rfl gO rfl _ _ (0,0) _ (L.bk_ 5 rfl) Tryz.underlying43 rfl op_sz ?_) | go_guarded | go_step | go_upon | go_skip | go_back)
  refine (xsame_any (s:=s1) (L.of_ 0 rfl) (L.of_ 1 rfl) (Nat.zero_le _)).mono ?_
  rintro e w16 ⟨rfl,K'⟩
  clear O_3 O_z O_8 P_3 P_z S_8 S_z
  replace L:=L.over K'
  have V_0:=L.at_ 0 0 rfl (v:=.int .i64 6) rfl
  have V_4:=L.at_ 0 4 rfl (v:=.slice X2 0 bX2) rfl
  have V_z:=L.lt 0 rfl
  go_wp2_with (refine wpList_load_want (by rfl) 27 (.tmp 1) rfl gC rfl _ _ (0,0) _ (L.bk_ 6 rfl) Tryz.underlying27 rfl cf_sz ?_)
  have RM:=PS.mst (a:=4) (M:=4) (n:=1) (ns:=1) (tr:=2) (zs:=[0]) (k:=1) (X:=0) (wo:=1) (qu:=1) (hW.below L.K) (by omega) much21 (by omega) (by omega) (bi21 (n:=1) (xs:=[0]) (L.bk_ 7 rfl) rfl (by omega)) (by omega) (by omega) (IS.none_ .u32 0 w16) (by omega) (by intro y hy;cases hy)
  rw [mo21.1] at RM
  refine (RM).mono ?_
  rintro e w17 ⟨rfl,K'⟩
  clear V_0 V_4 V_z
  replace L:=L.over K'
  clear RM
  go_wp2_with (refine wpList_load_want (by rfl) 27 (.tmp 1) rfl gC rfl _ _ (0,0) _ (L.bk_ 6 rfl) Tryz.underlying27 rfl cf_sz ?_)
  have RM:=PS.mst (a:=4) (M:=4) (n:=1) (ns:=1) (tr:=2) (zs:=[0]) (k:=6) (X:=0) (wo:=1) (qu:=1) (hW.below L.K) (by omega) much21 (by omega) (by omega) (bi21 (n:=1) (xs:=[0]) (L.bk_ 7 rfl) rfl (by omega)) (by omega) (by omega) (IS.none_ .u32 0 w17) (by omega) (by intro y hy;cases hy)
  rw [mo21.2.1] at RM
  refine (RM).mono ?_
  rintro e w18 ⟨rfl,K'⟩
  replace L:=L.over K'
  clear RM
  go_wp2_with (refine wpList_load_want (by rfl) 27 (.tmp 1) rfl gC rfl _ _ (0,0) _ (L.bk_ 6 rfl) Tryz.underlying27 rfl cf_sz ?_)
  have RM:=PS.mst (a:=4) (M:=4) (n:=1) (ns:=1) (tr:=2) (zs:=[0]) (k:=7) (X:=0) (wo:=1) (qu:=1) (hW.below L.K) (by omega) much21 (by omega) (by omega) (bi21 (n:=1) (xs:=[0]) (L.bk_ 7 rfl) rfl (by omega)) (by omega) (by omega) (IS.none_ .u32 0 w18) (by omega) (by intro y hy;cases hy)
  rw [mo21.2.2.1] at RM
  refine (RM).mono ?_
  rintro e w19 ⟨rfl,K'⟩
  replace L:=L.over K'
  clear RM
  go_wp2_with (refine wpList_load_want (by rfl) 27 (.tmp 1) rfl gC rfl _ _ (0,0) _ (L.bk_ 6 rfl) Tryz.underlying27 rfl cf_sz ?_)
  have RM:=PS.mst (a:=4) (M:=4) (n:=1) (ns:=1) (tr:=2) (zs:=[0]) (k:=5) (X:=5) (wo:=1) (qu:=1) (hW.below L.K) (by omega) much21 (by omega) (by omega) (bi21 (n:=1) (xs:=[0]) (L.bk_ 7 rfl) rfl (by omega)) (by omega) (by omega) (IS.none_ .u32 0 w19) (by omega) (by intro y hy;cases hy)
  rw [mo21.2.2.2] at RM
  refine (RM).mono ?_
  rintro e w20 ⟨rfl,K'⟩
  replace L:=L.over K'
  clear RM
  go_wp2
  go_ret
  exact ⟨rfl,L.K⟩
end Go.Proofs.YtfhefofkhmkcnaaGreatDoor

/-
 What the document's Legal answers of an answer that is right: the set then. Conditions: a configuration and a set that may be;at most 60000 addresses in the request,and in the answer's lists.
-/
namespace Go.Proofs.YtfhefofkhmkcnaaGreatDoor
set_option maxRecDepth 100000
set_option maxRecDepth 100000
set_option maxRecDepth 100000
open Go.RowKit
set_option maxHeartbeats 8000000
set_option linter.unusedVariables false
section
variable {w:World} {lo lo2 lo3 lo4 lo5 a M m d q f X p1 p2 q1 q2:Nat} {p sh wo qu tr k:Int} {A B C P Q:Option Addr} {n c:Nat} {zs xs ys xs':List Int} {x:An}
theorem errno_info:(Tryz.prog.info? 37).map (fun i=>(i.zero,i.size,i.bytes))=some (some (Value.int .i64 0),1,8):=by kernel_rfl
theorem rleg_most (ha:a<4294967296) (hM:Much a p M) (h0:IS .i64 lo w A n c zs) (hn:n≤65536) (hs0:IS .i64 lo2 w B m d xs) (hm:m≤60000) (hx:mayR M zs 0 xs=true) (hX:X<4294967296) (hy0:IS .u32 lo3 w C q f ys) (hq:q≤60000) (hw:W32 ys) (hA0:IS .u32 lo4 w P p1 p2 x.2.2.2.1) (hE0:IS .i64 lo5 w Q q1 q2 x.2.2.2.2) (b1:p1≤65536) (b2:q1≤60000) (hA1:0≤x.2.1∧x.2.1<4294967296) (hk:k≠4∧k≠6∨askE a M zs k X ys≠0∨x=an0 10∨x=an0 12) (hl:legS a M zs xs k X ys x=(xs',true)) :
  Calls Tryz.prog 13 #[.agg #[.int .u32 (a:Int),.int .i64 p,.slice A n c,.int .i64 sh,.int .i64 wo,.int .i64 qu,.int .i64 tr],.slice B m d,.agg #[.int .i64 k,.int .u32 (X:Int),.slice C q f],.agg #[.int .i64 x.1,.int .u32 x.2.1,.bool x.2.2.1,.slice P p1 p2,.slice Q q1 q2]] w (RetLB B m (xs',true) w):=by
 obtain ⟨hr_,hb_⟩:=mayR_iff.1 hx
 have hr:=Lib.hid hr_
 have hMm:=hM.most
 rw [← leg_is hr_ k X ys x hA1.1] at hl
 obtain ⟨D,hD,hD9⟩:∃ D:Nat,x.2.1=D∧D<4294967296:=⟨x.2.1.toNat,by omega,by omega⟩
 have TA:∀ v,∃ b,decide (x=an0 v)=b∧∀ w,IS .u32 lo4 w P p1 p2 x.2.2.2.1→IS .i64 lo5 w Q q1 q2 x.2.2.2.2→Hid (Calls Tryz.prog 40 #[.agg #[.int .i64 x.1,.int .u32 x.2.1,.bool x.2.2.1,.slice P p1 p2,.slice Q q1 q2],.int .i64 v] w (RetBo b w)):=fun v=>⟨_,rfl,fun w hA hE=>rlonly_any hA hE b1 (by omega) v⟩
 have TB:∀ D U,∃ b,decide (x=(0,D,U,[],[]))=b∧∀ w,IS .u32 lo4 w P p1 p2 x.2.2.2.1→IS .i64 lo5 w Q q1 q2 x.2.2.2.2→Hid (Calls Tryz.prog 21 #[.agg #[.int .i64 x.1,.int .u32 x.2.1,.bool x.2.2.1,.slice P p1 p2,.slice Q q1 q2],.agg #[.int .i64 0,.int .u32 D,.bool U,.slice none 0 0,.slice none 0 0]] w (RetBo b w)):=fun D U=>⟨_,rfl,fun w hA hE=>answers_any (y:=(0,D,U,[],[])) hA hE (IS.none_ .u32 0 _) (IS.none_ .i64 0 _) b1 (by omega) (by omega) (by omega)⟩
 obtain ⟨e,he⟩:∃ e,askE a M zs k X ys=e:=⟨_,rfl⟩
 obtain ⟨v,hv⟩:∃ v,ofO a M X=v:=⟨_,rfl⟩
 obtain ⟨u,hu⟩:∃ u,hasB xs v=u:=⟨_,rfl⟩
 obtain ⟨F,hF⟩:∃ F,fiO a M D zs=F:=⟨_,rfl⟩
 obtain ⟨fe,hfe⟩:∃ fe,fiE a M D zs=fe:=⟨_,rfl⟩
 obtain ⟨g,hg⟩:∃ g,hasB xs F=g:=⟨_,rfl⟩
 obtain ⟨bu,hbu⟩:∃ bu,fullB M zs xs=bu:=⟨_,rfl⟩
 obtain ⟨b10,h10,T10⟩:=TA 10
 obtain ⟨b12,h12,T12⟩:=TA 12
 obtain ⟨b9,h9,T9⟩:=TA 9
 obtain ⟨b5,h5,T5⟩:=TA 5
 obtain ⟨b6,h6,T6⟩:=TA 6
 obtain ⟨b0,h0_,T0⟩:=TA 0
 obtain ⟨be,he_,Te⟩:=TA e
 obtain ⟨bA,hA,BA⟩:=TB (D:Int) false
 obtain ⟨bX,hX2,BX⟩:=TB (X:Int) false
 obtain ⟨bQ,hQ,BQ⟩:=TB 0 u
 have TC:=fun w (h:IS .i64 lo w A n c zs) (hy:IS .u32 lo3 w C q f ys)=>Lib.hid (he ▸ rcheck_any (w:=w) (p:=p) (sh:=sh) (wo:=wo) (qu:=qu) (tr:=tr) (k:=k) hM h hn hy hq hX hw)
 have TO:=fun w=>Lib.hid (hv ▸ roffset_any (w:=w) (p:=p) X hX hM)
 have HH:∀ v w,IS .i64 lo2 w B m d xs→Calls Tryz.prog 42 #[.slice B m d,.int .i64 v] w (RetBo (hasB xs v) w):=fun v w hs=>(rhas9_any hs (by omega) v).mono (fun _ _ h=>⟨h.1,h.2 ▸ Below.refl _ _⟩)
 have TH:=fun w hs=>Lib.hid (hu ▸ HH v w hs)
 have TG:=fun w hs=>Lib.hid (hg ▸ HH F w hs)
 have TF:=fun w (h:IS .i64 lo w A n c zs)=>Lib.hid (hF ▸ hfe ▸ rfind_any (w:=w) (p:=p) (sh:=sh) (wo:=wo) (qu:=qu) (tr:=tr) D hD9 hM h hn)
 have TU:=fun w (h:IS .i64 lo w A n c zs) (hs:IS .i64 lo2 w B m d xs)=>Lib.hid (hbu ▸ rfull9_any (w:=w) (p:=p) (sh:=sh) (wo:=wo) (qu:=qu) (tr:=tr) hM h hn hs (by omega))
 have TI:=fun w (hs:IS .i64 lo2 w B m d xs) v=>Lib.hid (rwith_newS hs (by omega) hr.out v)
 have TD:=fun w (hs:IS .i64 lo2 w B m d xs) v=>Lib.hid (rwithout_new hs (by omega) v)
 have Z:(b10=true∧xs'=xs)∨(b10=false∧b12=true∧xs'=xs)∨b10=false∧b12=false∧(((e != 0)=true∧be=true∧xs'=xs)∨e=0∧((k=1∧b9=true∧bu=true∧xs'=xs)∨(k=1∧b9=false∧bA=true∧fe=0∧g=false∧xs'=ins xs F)∨(k=2∧u=true∧b5=true∧xs'=xs)∨(k=2∧u=false∧bX=true∧xs'=ins xs v)∨(k=3∧u=false∧b6=true∧xs'=xs)∨(k=3∧u=true∧b0=true∧xs'=del xs v)∨(k=5∧bQ=true∧xs'=xs)∨(k=7∧b0=true∧xs'=xs))):=by
  unfold legR at hl
  by_cases q10:x=an0 10
  ·rw [if_pos (.inl q10)] at hl
   exact .inl ⟨by rw [← h10];exact decide_eq_true q10,(congrArg Prod.fst hl).symm⟩
  ·by_cases q12:x=an0 12
   ·rw [if_pos (.inr q12)] at hl
    exact .inr (.inl ⟨by rw [← h10];exact decide_eq_false q10,by rw [← h12];exact decide_eq_true q12,(congrArg Prod.fst hl).symm⟩)
   ·rw [if_neg (by rintro (g | g);exact q10 g;exact q12 g),he] at hl
    refine .inr (.inr ⟨by rw [← h10];exact decide_eq_false q10,by rw [← h12];exact decide_eq_false q12,?_⟩)
    by_cases he0:e=0
    ·refine .inr ⟨he0,?_⟩
     rw [if_pos he0] at hl
     obtain ⟨k1,k7,-,-⟩:=askE_ok (he.trans he0)
     have hk':k≠4∧k≠6:=hk.elim id fun h=>h.elim (fun h=>absurd (he.trans he0) h) fun h=>h.elim (fun h=>absurd h q10) fun h=>absurd h q12
     obtain rfl | rfl | rfl | rfl | rfl:k=1∨k=2∨k=3∨k=5∨k=7:=by omega
     ·rw [doR_1,hD,Int.toNat_natCast,hF,hfe,hbu,hg] at hl
      split at hl
      ·exact .inl ⟨rfl,by rw [← h9];exact decide_eq_true (by assumption),(congrArg Prod.snd hl),(congrArg Prod.fst hl).symm⟩
      ·split at hl
       ·rename_i q9 qq
        exact .inr (.inl ⟨rfl,by rw [← h9];exact decide_eq_false q9,by rw [← hA];exact decide_eq_true qq.1,qq.2.1,qq.2.2,(congrArg Prod.fst hl).symm⟩)
       ·cases congrArg Prod.snd hl
     ·rw [doR_2,hv,hu] at hl
      split at hl
      ·exact .inr (.inr (.inl ⟨rfl,by assumption,by rw [← h5];exact congrArg Prod.snd hl,(congrArg Prod.fst hl).symm⟩))
      ·split at hl
       ·exact .inr (.inr (.inr (.inl ⟨rfl,Bool.not_eq_true _ ▸ (by assumption),by rw [← hX2];exact decide_eq_true (by assumption),(congrArg Prod.fst hl).symm⟩)))
       ·cases congrArg Prod.snd hl
     ·rw [doR_3,hv,hu] at hl
      split at hl
      ·exact .inr (.inr (.inr (.inr (.inl ⟨rfl,by assumption,by rw [← h6];exact congrArg Prod.snd hl,(congrArg Prod.fst hl).symm⟩))))
      ·split at hl
       ·exact .inr (.inr (.inr (.inr (.inr (.inl ⟨rfl,Bool.not_eq_false _ ▸ (by assumption),by rw [← h0_];exact decide_eq_true (by assumption),(congrArg Prod.fst hl).symm⟩)))))
       ·cases congrArg Prod.snd hl
     ·rw [doR_5,hv,hu] at hl
      exact .inr (.inr (.inr (.inr (.inr (.inr (.inl ⟨rfl,by rw [← hQ];exact congrArg Prod.snd hl,(congrArg Prod.fst hl).symm⟩))))))
     ·rw [doR_7] at hl
      exact .inr (.inr (.inr (.inr (.inr (.inr (.inr ⟨rfl,by rw [← h0_];exact congrArg Prod.snd hl,(congrArg Prod.fst hl).symm⟩))))))
    ·rw [if_neg he0] at hl
     exact .inl ⟨by simpa using he0,by rw [← he_];exact congrArg Prod.snd hl,(congrArg Prod.fst hl).symm⟩
 clear h10 h12 h9 h5 h6 h0_ he_ hA hX2 hQ hl hk hv hu hF hfe hg hbu TA TB HH hx hr_ hb_ hw he
 rw [hD] at *
 clear hD
 go_enter Tryz.func13,Tryz.ntmps13
 go_upto_region 1 with (fail)
 have L:=Loc.start w
 generalize hal:World.alloc _ _=w1
 replace L:=L.a3 hal
 clear hal
 generalize w.heap.size+1+1=gJ at L ⊢
 generalize w.heap.size+1=gG at L ⊢
 generalize w.heap.size=gH at L ⊢
 obtain ⟨J0,J1,J2,J3,J4,Jz⟩:=c5 (L.bk_ 0 rfl);obtain ⟨G0,G1,G2,Gz⟩:=c3 (L.bk_ 1 rfl);obtain ⟨H0,H1,H2,H3,H4,H5,H6,Hz⟩:=c7 (L.bk_ 2 rfl)
 rcases Z with ⟨rfl,rfl⟩ | ⟨rfl,rfl,rfl⟩ | ⟨rfl,rfl,⟨e1,rfl,rfl⟩ | ⟨rfl,⟨rfl,rfl,rfl,rfl⟩ | ⟨rfl,rfl,rfl,rfl,rfl,rfl⟩ | ⟨rfl,rfl,rfl,rfl⟩ | ⟨rfl,rfl,rfl,rfl⟩ | ⟨rfl,rfl,rfl,rfl⟩ | ⟨rfl,rfl,rfl,rfl⟩ | ⟨rfl,rfl,rfl⟩ | ⟨rfl,rfl,rfl⟩⟩⟩
 all_goals (go_wp2_with ((first | with_reducible refine (T10 _ (hA0.below L.K) (hE0.below L.K)).out.mono ?_ | with_reducible refine (T12 _ (hA0.below L.K) (hE0.below L.K)).out.mono ?_ | with_reducible refine (T9 _ (hA0.below L.K) (hE0.below L.K)).out.mono ?_ | with_reducible refine (T5 _ (hA0.below L.K) (hE0.below L.K)).out.mono ?_ | with_reducible refine (T6 _ (hA0.below L.K) (hE0.below L.K)).out.mono ?_ | with_reducible refine (T0 _ (hA0.below L.K) (hE0.below L.K)).out.mono ?_ | with_reducible refine (Te _ (hA0.below L.K) (hE0.below L.K)).out.mono ?_ | with_reducible refine (BA _ (hA0.below L.K) (hE0.below L.K)).out.mono ?_ | with_reducible refine (BX _ (hA0.below L.K) (hE0.below L.K)).out.mono ?_ | with_reducible refine (BQ _ (hA0.below L.K) (hE0.below L.K)).out.mono ?_ | with_reducible refine (TC _ (h0.below L.K) (hy0.below L.K)).out.mono ?_ | with_reducible refine (TO _).out.mono ?_ | with_reducible refine (TH _ (hs0.below L.K)).out.mono ?_ | with_reducible refine (TG _ (hs0.below L.K)).out.mono ?_ | with_reducible refine (TF _ (h0.below L.K)).out.mono ?_ | with_reducible refine (TU _ (h0.below L.K) (hs0.below L.K)).out.mono ?_);rintro _ w' ⟨rfl,K'⟩;clear J0 J1 J2 J3 J4 Jz G0 G1 G2 Gz H0 H1 H2 H3 H4 H5 H6 Hz;replace L:=L.over K';clear K';obtain ⟨J0,J1,J2,J3,J4,Jz⟩:=c5 (L.bk_ 0 rfl);obtain ⟨G0,G1,G2,Gz⟩:=c3 (L.bk_ 1 rfl);obtain ⟨H0,H1,H2,H3,H4,H5,H6,Hz⟩:=c7 (L.bk_ 2 rfl)))
 all_goals (first | (go_ret2;exact ⟨_,_,_,rfl,(hs0.below L.K).lower (Nat.zero_le _),(fun _ _ h=>h),L.K⟩) | ((first | refine (TI _ (hs0.below L.K) _).out.mono ?_ | refine (TD _ (hs0.below L.K) _).out.mono ?_);rintro _ w' ⟨IA,In,Ic,rfl,I,K'⟩;go_wp2;go_ret2;exact ⟨_,_,_,rfl,I.lower (Nat.zero_le _),(fun g hg _=>I.av (Nat.lt_of_lt_of_le hg L.K.size)),(L.over K').K⟩))
theorem rleg_6t (ha:a<4294967296) (hM:Much a p M) (h0:IS .i64 lo w A n c zs) (hn:n≤65536) (hs0:IS .i64 lo2 w B m d xs) (hm:m≤60000) (hx:mayR M zs 0 xs=true) (hX:X<4294967296) (hy0:IS .u32 lo3 w C q f ys) (hq:q≤60000) (hw:W32 ys) (hA0:IS .u32 lo4 w P p1 p2 x.2.2.2.1) (hE0:IS .i64 lo5 w Q q1 q2 x.2.2.2.2) (b1:p1≤65536) (b2:q1≤60000) (hA1:0≤x.2.1∧x.2.1<4294967296) (q10:x≠an0 10) (q12:x≠an0 12) (he:askE a M zs 6 X ys=0) (q11:x=an0 11) :
  Calls Tryz.prog 13 #[.agg #[.int .u32 (a:Int),.int .i64 p,.slice A n c,.int .i64 sh,.int .i64 wo,.int .i64 qu,.int .i64 tr],.slice B m d,.agg #[.int .i64 6,.int .u32 (X:Int),.slice C q f],.agg #[.int .i64 x.1,.int .u32 x.2.1,.bool x.2.2.1,.slice P p1 p2,.slice Q q1 q2]] w (RetLB B m (xs,true) w):=by
 obtain ⟨hr_,hb_⟩:=mayR_iff.1 hx
 have hr:=Lib.hid hr_
 have hMm:=hM.most
 have hml:=hs0.len
 have hb2:Hid (∀ x∈xs,0≤x∧x≤65536):=Lib.hid (fun x hx=>⟨(hb_ x hx).1,by have:=(hb_ x hx).2.1;omega⟩)
 have TA:∀ v,∃ b,decide (x=an0 v)=b∧∀ w,IS .u32 lo4 w P p1 p2 x.2.2.2.1→IS .i64 lo5 w Q q1 q2 x.2.2.2.2→Hid (Calls Tryz.prog 40 #[.agg #[.int .i64 x.1,.int .u32 x.2.1,.bool x.2.2.1,.slice P p1 p2,.slice Q q1 q2],.int .i64 v] w (RetBo b w)):=fun v=>⟨_,rfl,fun w hA hE=>rlonly_any hA hE b1 (by omega) v⟩
 obtain ⟨b10,h10,T10⟩:=TA 10
 obtain ⟨b12,h12,T12⟩:=TA 12
 obtain rfl:b10=false:=by rw [← h10];exact decide_eq_false q10
 obtain rfl:b12=false:=by rw [← h12];exact decide_eq_false q12
 obtain ⟨v,hv⟩:∃ v,ofO a M X=v:=⟨_,rfl⟩
 obtain ⟨u,hu⟩:∃ u,hasB xs v=u:=⟨_,rfl⟩
 have TC:=fun w (h:IS .i64 lo w A n c zs) (hy:IS .u32 lo3 w C q f ys)=>Lib.hid (he ▸ rcheck_any (w:=w) (p:=p) (sh:=sh) (wo:=wo) (qu:=qu) (tr:=tr) (k:=6) hM h hn hy hq hX hw)
 have TO:=fun w=>Lib.hid (hv ▸ roffset_any (w:=w) (p:=p) X hX hM)
 have TH:=fun w (hs:IS .i64 lo2 w B m d xs)=>Lib.hid (hu ▸ (show Calls Tryz.prog 42 #[.slice B m d,.int .i64 v] w (RetBo (hasB xs v) w) from (rhas9_any hs (by omega) v).mono (fun _ _ h=>⟨h.1,h.2 ▸ Below.refl _ _⟩)))
 obtain ⟨b11,h11,T11⟩:=TA 11
 obtain rfl:b11=true:=by rw [← h11];exact decide_eq_true q11
 clear h10 h12 h11 hv hu TA hx hr_ hb_ hw he q10 q12 q11
 go_enter Tryz.func13,Tryz.ntmps13
 go_upto_region 1 with (fail)
 have L:=Loc.start w
 replace L:=(((L).alloc #[.int .u32 (a:Int),.int .i64 p,.slice A n c,.int .i64 sh,.int .i64 wo,.int .i64 qu,.int .i64 tr] 27).alloc #[.int .i64 6,.int .u32 (X:Int),.slice C q f] 30).alloc #[.int .i64 x.1,.int .u32 x.2.1,.bool x.2.2.1,.slice P p1 p2,.slice Q q1 q2] 40
 try simp only [World.size_alloc] at L
 try dsimp only [nput] at L
 generalize (((w).alloc (.cells #[.int .u32 (a:Int),.int .i64 p,.slice A n c,.int .i64 sh,.int .i64 wo,.int .i64 qu,.int .i64 tr] 27)).alloc (.cells #[.int .i64 6,.int .u32 (X:Int),.slice C q f] 30)).alloc (.cells #[.int .i64 x.1,.int .u32 x.2.1,.bool x.2.2.1,.slice P p1 p2,.slice Q q1 q2] 40)=w1 at L ⊢
 generalize w.heap.size+1+1=gJ at L ⊢
 generalize w.heap.size+1=gG at L ⊢
 generalize w.heap.size=gH at L ⊢
 obtain ⟨J0,J1,J2,J3,J4,Jz⟩:=c5 (L.bk_ 0 rfl);obtain ⟨G0,G1,G2,Gz⟩:=c3 (L.bk_ 1 rfl);obtain ⟨H0,H1,H2,H3,H4,H5,H6,Hz⟩:=c7 (L.bk_ 2 rfl)
 go_wp2_with ((first | with_reducible refine (T10 _ (hA0.below L.K) (hE0.below L.K)).out.mono ?_ | with_reducible refine (T12 _ (hA0.below L.K) (hE0.below L.K)).out.mono ?_ | with_reducible refine (TC _ (h0.below L.K) (hy0.below L.K)).out.mono ?_ | with_reducible refine (TO _).out.mono ?_ | with_reducible refine (TH _ (hs0.below L.K)).out.mono ?_);rintro _ w2 ⟨rfl,K'⟩;clear J0 J1 J2 J3 J4 Jz G0 G1 G2 Gz H0 H1 H2 H3 H4 H5 H6 Hz;replace L:=L.over K';clear K';obtain ⟨J0,J1,J2,J3,J4,Jz⟩:=c5 (L.bk_ 0 rfl);obtain ⟨G0,G1,G2,Gz⟩:=c3 (L.bk_ 1 rfl);obtain ⟨H0,H1,H2,H3,H4,H5,H6,Hz⟩:=c7 (L.bk_ 2 rfl))
 clear J0 J1 J2 J3 J4 Jz G0 G1 G2 Gz H0 H1 H2 H3 H4 H5 H6 Hz
 refine rg L fun v2 hHeld=>?_
 replace L:=hHeld
 refine tg 0 163 (.slice B m d) rfl hHeld ?_
 refine tR 1 164 7 0 rfl rfl Tryz.underlying40 an_sz hHeld ?_
 refine rd 2 165 rfl fun K0 hK=>?_
 go_simp
 refine ((T11 _ (hA0.below L.K) (hE0.below L.K)).out).mono ?_
 rintro e w3 ⟨rfl,K'⟩
 replace L:=L.over K'
 refine hK.out _ _ L ?_
 clear hHeld hK K0
 intro hHeld
 clear K'
 try simp only [Act.put,sA,sZ,sS]
 refine tg 3 166 (.bool true) rfl hHeld ?_
 refine tn 4 167 rfl hHeld ?_
 refine tn 5 168 rfl hHeld ?_
 refine tn 6 169 rfl hHeld ?_
 refine tn 7 170 rfl hHeld ?_
 refine tn 8 171 rfl hHeld ?_
 refine tn 9 172 rfl hHeld ?_
 refine tg 10 173 (.bool true) rfl hHeld ?_
 refine tg 11 8 (.slice B m d) rfl hHeld ?_
 refine tg 12 9 (.bool true) rfl hHeld ?_
 refine wpAnyH_done (by kernel_rfl) ?_ _
 clear hHeld
 go_wp2
 go_ret2
 exact ⟨_,_,_,rfl,(hs0.below L.K).lower (Nat.zero_le _),(fun _ _ h=>h),L.K⟩
theorem rleg_6f (ha:a<4294967296) (hM:Much a p M) (h0:IS .i64 lo w A n c zs) (hn:n≤65536) (hs0:IS .i64 lo2 w B m d xs) (hm:m≤60000) (hx:mayR M zs 0 xs=true) (hX:X<4294967296) (hy0:IS .u32 lo3 w C q f ys) (hq:q≤60000) (hw:W32 ys) (hA0:IS .u32 lo4 w P p1 p2 x.2.2.2.1) (hE0:IS .i64 lo5 w Q q1 q2 x.2.2.2.2) (b1:p1≤65536) (b2:q1≤60000) (hA1:0≤x.2.1∧x.2.1<4294967296) (q10:x≠an0 10) (q12:x≠an0 12) (he:askE a M zs 6 X ys=0) (q11:x≠an0 11) (q6:x=(0,0,false,ads a xs,[])) :
  Calls Tryz.prog 13 #[.agg #[.int .u32 (a:Int),.int .i64 p,.slice A n c,.int .i64 sh,.int .i64 wo,.int .i64 qu,.int .i64 tr],.slice B m d,.agg #[.int .i64 6,.int .u32 (X:Int),.slice C q f],.agg #[.int .i64 x.1,.int .u32 x.2.1,.bool x.2.2.1,.slice P p1 p2,.slice Q q1 q2]] w (RetLB B m (xs,true) w):=by
 obtain ⟨hr_,hb_⟩:=mayR_iff.1 hx
 have hr:=Lib.hid hr_
 have hMm:=hM.most
 have hml:=hs0.len
 have hb2:Hid (∀ x∈xs,0≤x∧x≤65536):=Lib.hid (fun x hx=>⟨(hb_ x hx).1,by have:=(hb_ x hx).2.1;omega⟩)
 have TA:∀ v,∃ b,decide (x=an0 v)=b∧∀ w,IS .u32 lo4 w P p1 p2 x.2.2.2.1→IS .i64 lo5 w Q q1 q2 x.2.2.2.2→Hid (Calls Tryz.prog 40 #[.agg #[.int .i64 x.1,.int .u32 x.2.1,.bool x.2.2.1,.slice P p1 p2,.slice Q q1 q2],.int .i64 v] w (RetBo b w)):=fun v=>⟨_,rfl,fun w hA hE=>rlonly_any hA hE b1 (by omega) v⟩
 obtain ⟨b10,h10,T10⟩:=TA 10
 obtain ⟨b12,h12,T12⟩:=TA 12
 obtain rfl:b10=false:=by rw [← h10];exact decide_eq_false q10
 obtain rfl:b12=false:=by rw [← h12];exact decide_eq_false q12
 obtain ⟨v,hv⟩:∃ v,ofO a M X=v:=⟨_,rfl⟩
 obtain ⟨u,hu⟩:∃ u,hasB xs v=u:=⟨_,rfl⟩
 have TC:=fun w (h:IS .i64 lo w A n c zs) (hy:IS .u32 lo3 w C q f ys)=>Lib.hid (he ▸ rcheck_any (w:=w) (p:=p) (sh:=sh) (wo:=wo) (qu:=qu) (tr:=tr) (k:=6) hM h hn hy hq hX hw)
 have TO:=fun w=>Lib.hid (hv ▸ roffset_any (w:=w) (p:=p) X hX hM)
 have TH:=fun w (hs:IS .i64 lo2 w B m d xs)=>Lib.hid (hu ▸ (show Calls Tryz.prog 42 #[.slice B m d,.int .i64 v] w (RetBo (hasB xs v) w) from (rhas9_any hs (by omega) v).mono (fun _ _ h=>⟨h.1,h.2 ▸ Below.refl _ _⟩)))
 obtain ⟨b11,h11,T11⟩:=TA 11
 obtain rfl:b11=false:=by rw [← h11];exact decide_eq_false q11
 have hq6:=decide_eq_true q6
 clear h10 h12 h11 hv hu TA hx hr_ hb_ hw he q10 q12 q11
 clear q6
 replace hq6:=Lib.hid hq6
 go_enter Tryz.func13,Tryz.ntmps13
 go_upto_region 1 with (fail)
 have L:=Loc.start w
 replace L:=(((L).alloc #[.int .u32 (a:Int),.int .i64 p,.slice A n c,.int .i64 sh,.int .i64 wo,.int .i64 qu,.int .i64 tr] 27).alloc #[.int .i64 6,.int .u32 (X:Int),.slice C q f] 30).alloc #[.int .i64 x.1,.int .u32 x.2.1,.bool x.2.2.1,.slice P p1 p2,.slice Q q1 q2] 40
 try simp only [World.size_alloc] at L
 try dsimp only [nput] at L
 generalize (((w).alloc (.cells #[.int .u32 (a:Int),.int .i64 p,.slice A n c,.int .i64 sh,.int .i64 wo,.int .i64 qu,.int .i64 tr] 27)).alloc (.cells #[.int .i64 6,.int .u32 (X:Int),.slice C q f] 30)).alloc (.cells #[.int .i64 x.1,.int .u32 x.2.1,.bool x.2.2.1,.slice P p1 p2,.slice Q q1 q2] 40)=w1 at L ⊢
 generalize w.heap.size+1+1=gJ at L ⊢
 generalize w.heap.size+1=gG at L ⊢
 generalize w.heap.size=gH at L ⊢
 obtain ⟨J0,J1,J2,J3,J4,Jz⟩:=c5 (L.bk_ 0 rfl);obtain ⟨G0,G1,G2,Gz⟩:=c3 (L.bk_ 1 rfl);obtain ⟨H0,H1,H2,H3,H4,H5,H6,Hz⟩:=c7 (L.bk_ 2 rfl)
 go_wp2_with ((first | with_reducible refine (T10 _ (hA0.below L.K) (hE0.below L.K)).out.mono ?_ | with_reducible refine (T12 _ (hA0.below L.K) (hE0.below L.K)).out.mono ?_ | with_reducible refine (TC _ (h0.below L.K) (hy0.below L.K)).out.mono ?_ | with_reducible refine (TO _).out.mono ?_ | with_reducible refine (TH _ (hs0.below L.K)).out.mono ?_);rintro _ w2 ⟨rfl,K'⟩;clear J0 J1 J2 J3 J4 Jz G0 G1 G2 Gz H0 H1 H2 H3 H4 H5 H6 Hz;replace L:=L.over K';clear K';obtain ⟨J0,J1,J2,J3,J4,Jz⟩:=c5 (L.bk_ 0 rfl);obtain ⟨G0,G1,G2,Gz⟩:=c3 (L.bk_ 1 rfl);obtain ⟨H0,H1,H2,H3,H4,H5,H6,Hz⟩:=c7 (L.bk_ 2 rfl))
 clear J0 J1 J2 J3 J4 Jz G0 G1 G2 Gz H0 H1 H2 H3 H4 H5 H6 Hz
 refine rg L fun v2 hHeld=>?_
 replace L:=hHeld
 refine tg 0 163 (.slice B m d) rfl hHeld ?_
 refine tR 1 164 7 0 rfl rfl Tryz.underlying40 an_sz hHeld ?_
 refine rd 2 165 rfl fun K0 hK=>?_
 go_simp
 refine ((T11 _ (hA0.below L.K) (hE0.below L.K)).out).mono ?_
 rintro e w3 ⟨rfl,K'⟩
 replace L:=L.over K'
 refine hK.out _ _ L ?_
 clear hHeld hK K0
 intro hHeld
 clear K'
 try simp only [Act.put,sA,sZ,sS]
 refine tg 3 166 (.bool false) rfl hHeld ?_
 refine tR 4 167 7 0 rfl rfl Tryz.underlying40 an_sz hHeld ?_
 refine tR 5 168 4 2 rfl rfl Tryz.underlying27 cf_sz hHeld ?_
 refine tg 6 169 (.slice B m d) rfl hHeld ?_
 refine rd 7 170 rfl fun K0 hK=>?_
 go_simp
 refine (raddrs9_new (hs0.below L.K) (by omega) hb2.out).mono ?_
 rintro e w4 ⟨D1,n1,d1,rfl,I,K'⟩
 have Lb:=L.lts
 replace L:=L.over K'
 replace L:=L.is_new Lb I
 clear Lb
 try dsimp only [lF,List.cons_append,List.nil_append] at L
 have hn1:n1≤65536:=by have h1:=I.len;have h2:=ads_len a xs;omega
 clear I
 refine hK.out _ _ (L.less 1) ?_
 clear hHeld hK K0
 intro hHeld
 clear K'
 try simp only [Act.put,sA,sZ,sS]
 refine tz 8 171 rfl hHeld ?_
 refine rd 9 172 rfl fun K0 hK=>?_
 go_simp
 refine ((answers_is (x:=x) (y:=(0,0,false,ads a xs,[])) (hA0.below L.K) (hE0.below L.K) (L.is_ 0 rfl) (IS.none_ .i64 0 _) b1 (by omega) hn1 (by omega) hq6.out)).mono ?_
 rintro e w5 ⟨rfl,K'⟩
 replace L:=L.over K'
 refine hK.out _ _ (L.less 1) ?_
 clear hHeld hK K0
 intro hHeld
 clear K'
 try simp only [Act.put,sA,sZ,sS]
 refine tg 10 173 (.bool true) rfl hHeld ?_
 refine tg 11 8 (.slice B m d) rfl hHeld ?_
 refine tg 12 9 (.bool true) rfl hHeld ?_
 refine wpAnyH_done (by kernel_rfl) ?_ _
 clear hHeld
 go_wp2
 go_ret2
 exact ⟨_,_,_,rfl,(hs0.below L.K).lower (Nat.zero_le _),(fun _ _ h=>h),L.K⟩
theorem rleg_4 (ha:a<4294967296) (hM:Much a p M) (h0:IS .i64 lo w A n c zs) (hn:n≤65536) (hs0:IS .i64 lo2 w B m d xs) (hm:m≤60000) (hx:mayR M zs 0 xs=true) (hX:X<4294967296) (hy0:IS .u32 lo3 w C q f ys) (hq:q≤60000) (hw:W32 ys) (hA0:IS .u32 lo4 w P p1 p2 x.2.2.2.1) (hE0:IS .i64 lo5 w Q q1 q2 x.2.2.2.2) (b1:p1≤65536) (b2:q1≤60000) (hA1:0≤x.2.1∧x.2.1<4294967296) (q10:x≠an0 10) (q12:x≠an0 12) (he:askE a M zs 4 X ys=0) (q4:x=(0,0,false,[],batE a M xs ys)) :
  Calls Tryz.prog 13 #[.agg #[.int .u32 (a:Int),.int .i64 p,.slice A n c,.int .i64 sh,.int .i64 wo,.int .i64 qu,.int .i64 tr],.slice B m d,.agg #[.int .i64 4,.int .u32 (X:Int),.slice C q f],.agg #[.int .i64 x.1,.int .u32 x.2.1,.bool x.2.2.1,.slice P p1 p2,.slice Q q1 q2]] w (RetLB B m (batS a M xs ys,true) w):=by
 obtain ⟨hr_,hb_⟩:=mayR_iff.1 hx
 have hr:=Lib.hid hr_
 have hMm:=hM.most
 have hml:=hs0.len
 have hb2:Hid (∀ x∈xs,0≤x∧x≤65536):=Lib.hid (fun x hx=>⟨(hb_ x hx).1,by have:=(hb_ x hx).2.1;omega⟩)
 have TA:∀ v,∃ b,decide (x=an0 v)=b∧∀ w,IS .u32 lo4 w P p1 p2 x.2.2.2.1→IS .i64 lo5 w Q q1 q2 x.2.2.2.2→Hid (Calls Tryz.prog 40 #[.agg #[.int .i64 x.1,.int .u32 x.2.1,.bool x.2.2.1,.slice P p1 p2,.slice Q q1 q2],.int .i64 v] w (RetBo b w)):=fun v=>⟨_,rfl,fun w hA hE=>rlonly_any hA hE b1 (by omega) v⟩
 obtain ⟨b10,h10,T10⟩:=TA 10
 obtain ⟨b12,h12,T12⟩:=TA 12
 obtain rfl:b10=false:=by rw [← h10];exact decide_eq_false q10
 obtain rfl:b12=false:=by rw [← h12];exact decide_eq_false q12
 obtain ⟨v,hv⟩:∃ v,ofO a M X=v:=⟨_,rfl⟩
 obtain ⟨u,hu⟩:∃ u,hasB xs v=u:=⟨_,rfl⟩
 have TC:=fun w (h:IS .i64 lo w A n c zs) (hy:IS .u32 lo3 w C q f ys)=>Lib.hid (he ▸ rcheck_any (w:=w) (p:=p) (sh:=sh) (wo:=wo) (qu:=qu) (tr:=tr) (k:=4) hM h hn hy hq hX hw)
 have TO:=fun w=>Lib.hid (hv ▸ roffset_any (w:=w) (p:=p) X hX hM)
 have TH:=fun w (hs:IS .i64 lo2 w B m d xs)=>Lib.hid (hu ▸ (show Calls Tryz.prog 42 #[.slice B m d,.int .i64 v] w (RetBo (hasB xs v) w) from (rhas9_any hs (by omega) v).mono (fun _ _ h=>⟨h.1,h.2 ▸ Below.refl _ _⟩)))
 obtain ⟨i0,hi,hz0,hz1,hz2⟩:=info_parts errno_info
 have hl:=Lib.hid hy0.len
 have hw9:=Lib.hid hw
 have RL:∀ k,Hid ((batS a M xs (ys.take k)).length≤m):=fun k=>Lib.hid (by rw [← hml];exact batS_len _)
 have hq4:=Lib.hid (decide_eq_true q4)
 clear h10 h12 hv hu TA hx hr_ hb_ hw he q10 q12 q4
 go_enter Tryz.func13,Tryz.ntmps13
 go_upto_region 1 with (fail)
 have L:=Loc.start w
 replace L:=(((L).alloc #[.int .u32 (a:Int),.int .i64 p,.slice A n c,.int .i64 sh,.int .i64 wo,.int .i64 qu,.int .i64 tr] 27).alloc #[.int .i64 4,.int .u32 (X:Int),.slice C q f] 30).alloc #[.int .i64 x.1,.int .u32 x.2.1,.bool x.2.2.1,.slice P p1 p2,.slice Q q1 q2] 40
 try simp only [World.size_alloc] at L
 try dsimp only [nput] at L
 generalize (((w).alloc (.cells #[.int .u32 (a:Int),.int .i64 p,.slice A n c,.int .i64 sh,.int .i64 wo,.int .i64 qu,.int .i64 tr] 27)).alloc (.cells #[.int .i64 4,.int .u32 (X:Int),.slice C q f] 30)).alloc (.cells #[.int .i64 x.1,.int .u32 x.2.1,.bool x.2.2.1,.slice P p1 p2,.slice Q q1 q2] 40)=w1 at L ⊢
 generalize w.heap.size+1+1=gJ at L ⊢
 generalize w.heap.size+1=gG at L ⊢
 generalize w.heap.size=gH at L ⊢
 obtain ⟨J0,J1,J2,J3,J4,Jz⟩:=c5 (L.bk_ 0 rfl);obtain ⟨G0,G1,G2,Gz⟩:=c3 (L.bk_ 1 rfl);obtain ⟨H0,H1,H2,H3,H4,H5,H6,Hz⟩:=c7 (L.bk_ 2 rfl)
 go_wp2_with ((first | with_reducible refine (T10 _ (hA0.below L.K) (hE0.below L.K)).out.mono ?_ | with_reducible refine (T12 _ (hA0.below L.K) (hE0.below L.K)).out.mono ?_ | with_reducible refine (TC _ (h0.below L.K) (hy0.below L.K)).out.mono ?_ | with_reducible refine (TO _).out.mono ?_ | with_reducible refine (TH _ (hs0.below L.K)).out.mono ?_);rintro _ w2 ⟨rfl,K'⟩;clear J0 J1 J2 J3 J4 Jz G0 G1 G2 Gz H0 H1 H2 H3 H4 H5 H6 Hz;replace L:=L.over K';clear K';obtain ⟨J0,J1,J2,J3,J4,Jz⟩:=c5 (L.bk_ 0 rfl);obtain ⟨G0,G1,G2,Gz⟩:=c3 (L.bk_ 1 rfl);obtain ⟨H0,H1,H2,H3,H4,H5,H6,Hz⟩:=c7 (L.bk_ 2 rfl))
 clear J0 J1 J2 J3 J4 Jz G0 G1 G2 Gz H0 H1 H2 H3 H4 H5 H6 Hz
 go_wp2
 have KW:=L.K.size
 have L5:=L
 clear L
 go_loopw [16,17,18] (fun s l i wr=>∃ (r n1 c1 e1:Nat) (S L:Option Addr),r≤q∧i=.int .i64 r∧s=.slice S n1 c1∧l=.slice L r e1∧Hid (IS .i64 0 wr S n1 c1 (batS a M xs (ys.take r)))∧Hid (OwnAv (.slice L r e1) S n1)∧Hid (∀ g,g<w2.heap.size→Av g B m→Av g S n1)∧Hid (Ri .i64 37 wr w2.heap.size (.slice L r e1) r (batE a M xs (ys.take r)))∧Below w2.heap.size w2 wr) (fun _ _ i _=>q - (intOf i).toNat)
 case atStart=>exact ⟨0,m,d,0,B,none,Nat.zero_le _,rfl,rfl,rfl,Lib.hid ((hs0.below L5.K).lower (Nat.zero_le _)),Lib.hid (OwnAv.nil_ _ _),Lib.hid (fun _ _ h=>h),Lib.hid (Ri.nil _ _),Below.refl _ _⟩
 case round =>
  obtain ⟨r,n1,c1,e1,S,LL,hk,rfl,rfl,rfl,HI,HV,HO,HR,Kr⟩:=hrel
  have LK:=L5.over Kr
  have HJ:=LK.bk_ 0 rfl
  have HG:=LK.bk_ 1 rfl
  have HH:=LK.bk_ 2 rfl
  by_cases hlt:r<q
  ·obtain ⟨y,hy1,hyb⟩:=hw9.out.at_ (k:=r) (by have:=hl.out;omega)
   obtain ⟨bb,oo,rfl,hbb,hcc⟩:=(hy0.below LK.K).get hlt
   rw [hy1] at hcc
   obtain ⟨v,hv⟩:∃ v,ofO a M y=v:=⟨_,rfl⟩
   obtain ⟨u,hu⟩:∃ u,hasB (batS a M xs (ys.take r)) v=u:=⟨_,rfl⟩
   have htk:Hid (batS a M xs (ys.take (r+1))=del (batS a M xs (ys.take r)) v):=Lib.hid (by have:=batS_take (a:=a) (M:=M) (xs:=xs) (ys:=ys) (k:=r) (by have:=hl.out;omega);rw [hy1,show ((y:Int)).toNat=y from rfl,hv] at this;exact this)
   have hte:Hid (batE a M xs (ys.take (r+1))=batE a M xs (ys.take r) ++ [if u=true then 0 else 6]):=Lib.hid (by rw [take_gi (by have:=hl.out;omega),batE_snoc,hy1,show ((y:Int)).toNat=y from rfl,hv];unfold reE;rw [hu])
   have hn1:n1≤60000:=by have h1:=(RL r).out;have h2:=HI.out.len;omega
   have TO:=fun w=>Lib.hid (hv ▸ roffset_any (w:=w) (p:=p) y hyb hM)
   have TH:=fun w (hs:IS .i64 0 w S n1 c1 (batS a M xs (ys.take r)))=>Lib.hid (hu ▸ rhas9_any hs (by omega) v)
   clear hv hu hy1 LK
   have L:=Loc.start wr
   have e1:(r:Int)<(q:Int):=by omega
   have G_2:=(HG.below L.K).at_ 2 (v:=.slice (some ⟨bb,oo,none⟩) q f) rfl
   have G_z:=(HG.below L.K).lt
   go_upto_region 34 with fail
   clear G_2 G_z e1
   refine rg L fun v2 hHeld=>?_
   replace L:=hHeld
   refine tg 0 125 (.pointer (some ⟨gH,0,none⟩)) rfl hHeld ?_
   refine ty 1 126 (.agg #[.int .u32 (a:Int),.int .i64 p]) rfl ?_ hHeld ?_
   ·intro ww hS
    try dsimp only at hS
    have H_0:=(HH.below (hS).K).at_ 0 (v:=.int .u32 (a:Int)) rfl
    have H_z:=(HH.below (hS).K).lt
    have H_1:=(HH.below (hS).K).at_ 1 (v:=.int .i64 p) rfl
    have H_z:=(HH.below (hS).K).lt
    go_simp
    try with_reducible rfl
    try omega
   refine tg 2 127 (.pointer (some ⟨gG,2,none⟩)) rfl hHeld ?_
   refine ty 3 128 (.slice (some ⟨bb,oo,none⟩) q f) rfl ?_ hHeld ?_
   ·intro ww hS
    try dsimp only at hS
    have G_2:=(HG.below (hS).K).at_ 2 (v:=.slice (some ⟨bb,oo,none⟩) q f) rfl
    have G_z:=(HG.below (hS).K).lt
    go_simp
    try with_reducible rfl
    try omega
   refine tg 4 129 (.int .i64 (r:Int)) rfl hHeld ?_
   refine tg 5 130 (.pointer (some ⟨bb,oo+r,none⟩)) rfl hHeld ?_
   refine ty 6 131 (.int .u32 (y:Int)) rfl ?_ hHeld ?_
   ·intro ww hS
    try dsimp only at hS
    have X:=((hS).K.cell (p:=⟨bb,oo+r,none⟩) hbb).trans hcc
    go_simp
    try with_reducible rfl
    try omega
   refine rd 7 132 rfl fun K0 hK=>?_
   go_simp
   refine ((TO _).out).mono ?_
   rintro e w3 ⟨rfl,K'⟩
   replace L:=L.over K'
   refine hK.out _ _ L ?_
   clear hHeld hK K0
   intro hHeld
   clear K'
   try simp only [Act.put,sA,sZ,sS]
   refine tz 8 124 rfl hHeld ?_
   refine tg 9 133 (.int .i64 v) rfl hHeld ?_
   refine tz 10 134 rfl hHeld ?_
   refine tg 11 19 (.int .i64 v) rfl hHeld ?_
   refine tz 12 20 rfl hHeld ?_
   refine wpAnyH_done (by kernel_rfl) ?_ _
   clear hHeld
   replace Kr:=Below.then_ Kr L.K
   replace HI:=HI.out.below L.K
   replace HR:=HR.out.below L.K
   clear L HJ HG HH hbb hcc
   cases u with
   | true =>
    go_wp2_with fail
    refine (TH _ HI).out.mono ?_
    rintro e _ ⟨rfl,rfl⟩
    clear TH
    obtain ⟨L2,e2,wap,hap,HR2,K5,HI2,HV2⟩:=run_app1k (P:=Tryz.prog) (x:=0) Tryz.underlying38 hi hz0 hz1 hz2 HR (by omega) Kr.size 38 HI HV.out
    have HA:=Lib.hid hap
    rw [← (show batE a M xs (ys.take (r+1))=batE a M xs (ys.take r) ++ [0] from hte.out)] at HR2
    replace Kr:=Kr.trans K5
    replace HR2:=Lib.hid HR2
    clear hap HI HR K5
    go_wp2_with (at_builtin;refine wpList_append_run rfl (.tmp 138) (.tmp 139) 38 rfl _ _ _ _ rfl rfl HA.out ?_)
    clear HA
    refine (rwithout_new HI2 (by omega) v).mono ?_
    rintro e wap2 ⟨IA,In,Ic,rfl,I,K'⟩
    rw [← htk.out] at I
    have HV3:=HR2.out.av_new I
    have HO3:Hid (∀ g,g<w2.heap.size→Av g B m→Av g IA In):=Lib.hid (fun g hg _=>I.av (Nat.lt_of_lt_of_le hg Kr.size))
    replace I:=I.lower (Nat.zero_le _)
    replace Kr:=Below.then_ Kr K'
    have HR3:=HR2.out.below K'
    clear HR2
    go_wp2
    go_roundw
    case rel=>exact ⟨r+1,_,_,_,_,_,by omega,by go_num,rfl,rfl,Lib.hid I,Lib.hid HV3,HO3,Lib.hid HR3,Kr⟩
    case measure=>simp [intOf];omega
   | false =>
    go_wp2_with fail
    refine (TH _ HI).out.mono ?_
    rintro e _ ⟨rfl,rfl⟩
    clear TH
    obtain ⟨L2,e2,wap,hap,HR2,K5,HI2,HV2⟩:=run_app1k (P:=Tryz.prog) (x:=6) Tryz.underlying38 hi hz0 hz1 hz2 HR (by omega) Kr.size 38 HI HV.out
    have HA:=Lib.hid hap
    rw [← (show batE a M xs (ys.take (r+1))=batE a M xs (ys.take r) ++ [6] from hte.out)] at HR2
    replace Kr:=Kr.trans K5
    replace HR2:=Lib.hid HR2
    clear hap HI HR K5
    go_wp2_with (at_builtin;refine wpList_append_run rfl (.tmp 141) (.tmp 142) 38 rfl _ _ _ _ rfl rfl HA.out ?_)
    clear HA
    refine (rwithout_new HI2 (by omega) v).mono ?_
    rintro e wap2 ⟨IA,In,Ic,rfl,I,K'⟩
    rw [← htk.out] at I
    have HV3:=HR2.out.av_new I
    have HO3:Hid (∀ g,g<w2.heap.size→Av g B m→Av g IA In):=Lib.hid (fun g hg _=>I.av (Nat.lt_of_lt_of_le hg Kr.size))
    replace I:=I.lower (Nat.zero_le _)
    replace Kr:=Below.then_ Kr K'
    have HR3:=HR2.out.below K'
    clear HR2
    go_wp2
    go_roundw
    case rel=>exact ⟨r+1,_,_,_,_,_,by omega,by go_num,rfl,rfl,Lib.hid I,Lib.hid HV3,HO3,Lib.hid HR3,Kr⟩
    case measure=>simp [intOf];omega
  ·obtain rfl:q=r:=by omega
   have hEr:=HR.out.is
   have hSr:=HI.out
   rw [List.take_of_length_le (by have:=hl.out;omega)] at hEr hSr
   replace L5:=L5.over Kr
   clear LK HJ HG HH HI HR TC TH TO
   obtain ⟨J0,J1,J2,J3,J4,Jz⟩:=c5 (L5.bk_ 0 rfl)
   obtain ⟨G0,G1,G2,Gz⟩:=c3 (L5.bk_ 1 rfl)
   go_wp2_with fail
   refine (answers_is (x:=x) (y:=(0,0,false,[],batE a M xs ys)) (hA0.below L5.K) (hE0.below L5.K) (IS.none_ .u32 0 _) hEr b1 (by omega) (by omega) (by omega) hq4.out).mono ?_
   rintro e w6 ⟨rfl,K'⟩
   clear J0 J1 J2 J3 J4 Jz G0 G1 G2 Gz
   replace L5:=L5.over K'
   go_wp2
   go_ret2
   exact ⟨_,_,_,rfl,hSr.below K',(fun g hg=>HO.out g (Nat.lt_of_lt_of_le hg KW)),L5.K⟩
theorem rlegY (ha:a<4294967296) (hM:Much a p M) (h0:IS .i64 lo w A n c zs) (hn:n≤65536) (hs0:IS .i64 lo2 w B m d xs) (hm:m≤60000) (hx:mayR M zs 0 xs=true) (hX:X<4294967296) (hy0:IS .u32 lo3 w C q f ys) (hq:q≤60000) (hw:W32 ys) (hA0:IS .u32 lo4 w P p1 p2 x.2.2.2.1) (hE0:IS .i64 lo5 w Q q1 q2 x.2.2.2.2) (b1:p1≤65536) (b2:q1≤60000) (hA1:0≤x.2.1∧x.2.1<4294967296) (hl:legS a M zs xs k X ys x=(xs',true)) :
  Calls Tryz.prog 13 #[.agg #[.int .u32 (a:Int),.int .i64 p,.slice A n c,.int .i64 sh,.int .i64 wo,.int .i64 qu,.int .i64 tr],.slice B m d,.agg #[.int .i64 k,.int .u32 (X:Int),.slice C q f],.agg #[.int .i64 x.1,.int .u32 x.2.1,.bool x.2.2.1,.slice P p1 p2,.slice Q q1 q2]] w (RetLB B m (xs',true) w):=by
 by_cases hk:k≠4∧k≠6∨askE a M zs k X ys≠0∨x=an0 10∨x=an0 12
 ·exact rleg_most ha hM h0 hn hs0 hm hx hX hy0 hq hw hA0 hE0 b1 b2 hA1 hk hl
 ·have q10:x≠an0 10:=fun h=>hk (.inr (.inr (.inl h)))
  have q12:x≠an0 12:=fun h=>hk (.inr (.inr (.inr h)))
  have he:askE a M zs k X ys=0:=Decidable.byContradiction fun h=>hk (.inr (.inl h))
  rw [← leg_is (mayR_iff.1 hx).1 k X ys x hA1.1] at hl
  unfold legR at hl
  rw [if_neg (by rintro (g | g);exact q10 g;exact q12 g),if_pos he] at hl
  obtain rfl | rfl:k=4∨k=6:=by omega
  ·rw [doR_4] at hl
   split at hl
   ·rename_i q4
    obtain rfl:=congrArg Prod.fst hl
    exact rleg_4 ha hM h0 hn hs0 hm hx hX hy0 hq hw hA0 hE0 b1 b2 hA1 q10 q12 he q4
   ·cases congrArg Prod.snd hl
  ·rw [doR_6] at hl
   obtain rfl:=congrArg Prod.fst hl
   have q6:=of_decide_eq_true (congrArg Prod.snd hl)
   by_cases q11:x=an0 11
   ·exact rleg_6t ha hM h0 hn hs0 hm hx hX hy0 hq hw hA0 hE0 b1 b2 hA1 q10 q12 he q11
   ·exact rleg_6f ha hM h0 hn hs0 hm hx hX hy0 hq hw hA0 hE0 b1 b2 hA1 q10 q12 he q11 (q6.resolve_left q11)
theorem legSays : LegSays := ⟨fun ha hM h0 hn hs0 hm hx hX hy0 hq hw hA0 hE0 b1 b2 hA1 hl => rlegY ha hM h0 hn hs0 hm hx hX hy0 hq hw hA0 hE0 b1 b2 hA1 hl⟩
end
end Go.Proofs.YtfhefofkhmkcnaaGreatDoor

/-
 What lodger/snap.Begin and .Step answer. Conditions: a block that may be,as many cells as there are,a snapshot where it may be.
-/
namespace Go.Proofs.YtfhefofkhmkcnaaGreatDoor
set_option maxRecDepth 100000
set_option maxHeartbeats 8000000
set_option maxRecDepth 100000
open Go.RowKit
set_option linter.unusedVariables false
section
variable {w:World} {lo lz a M m d ns tr:Nat} {p wo qu:Int} {A B:Option Addr} {n c:Nat} {zs rq ds:List Int} {ys sn:List Nat} {h:Hd} {s:Sc} {l:Ls}
theorem nsl_eq {x y:Nat} (hx:gt ys s.at_.toNat=x) (hy:gt sn s.at_.toNat=y) (h7:s.phase=7) (hd:ds=[]):nsAL a M zs sn x y s ⟨rq,ds,[],sn.map Int.ofNat⟩=⟨rq,nD a M zs ys s sn ds,[],(nN M ys s sn).map Int.ofNat⟩:=by
 unfold nsAL nN nD
 rw [if_neg (c:=s.phase=6) (by omega),if_pos (c:=s.phase=7) h7,hx,hy]
 by_cases he:x=y
 ·rw [if_pos he,if_pos he]
  by_cases hl:s.at_+1<(lv M:Int)
  ·rw [if_pos hl,if_pos hl,if_neg (fun h=>h.2.2 hl)]
  ·rw [if_neg hl,if_neg hl,if_pos ⟨h7,he,hl⟩];rfl
 ·rw [if_neg he,if_neg he,if_neg (fun h=>he h.2.1)];rfl
theorem nst_any (ha:a<4294967296) (hM:Much a p M) (hN:NI M tr s sn ds) (hL:Lists lo w h ⟨rq,ds,[],sn.map Int.ofNat⟩) (hq:rq.length≤60000) (htr:tr≤60000) (hU:US w B m d ys) (hm:lv M≤m) (hZ:IS .i64 lz w A n c zs) (hnz:n≤65536) (hr:risB M 0 zs=true) (hp:s.phase≠0) :
  Calls Tryz.prog 120 #[.agg #[.int .u32 (a:Int),.int .i64 p,.slice A n c,.int .i64 (ns:Int),.int .i64 wo,.int .i64 qu,.int .i64 (tr:Int)],.slice B m d,.agg (opv h s)] w (RetSw w.heap.size (nS M tr ys s sn) ⟨rq,nD a M zs ys s sn ds,[],(nN M ys s sn).map Int.ofNat⟩ (nB M tr ys s sn) w):=by
 have z0:=hL.i0.len
 have z1:=hL.i1.len
 have z2:=hL.i2.len
 have z3:=hL.i3.len
 have hm9:=hM.most
 have hv:=lv_le hm9
 have hdl:=hN.dl
 simp only [List.length_nil,List.length_map] at z0 z1 z2 z3
 have ph:=hN.ph
 cases ph with
 | first sn h6 h1 h2 h3 =>
  obtain ⟨e1,e2,e3,e4⟩:=ns_first (a:=a) (M:=M) (tr:=tr) (zs:=zs) (ys:=ys) (sn:=sn) (ds:=[]) h6
  have R:=nstep_first (w:=w) (p:=p) (sh:=(ns:Int)) (wo:=wo) (qu:=qu) (tr:=(tr:Int)) (A:=A) (n:=n) (c:=c) ha hM hL (by omega) (by omega) (by omega) (by omega) hU h1 (by omega) h2 hN.kd h6
  rw [e1,e2,e3,e4,h1,List.map_append]
  rw [h1] at R
  exact R
 | again sn t h7 h1 h2 h3 h4 =>
  obtain ⟨e1,_,e3⟩:=ns_again (M:=M) (tr:=tr) (ys:=ys) (sn:=sn) h7
  have R:=nstep_again (w:=w) (p:=p) (sh:=(ns:Int)) (wo:=wo) (qu:=qu) (tr:=(tr:Int)) (A:=A) (n:=n) (c:=c) ha hM hL (by omega) (by omega) (by omega) (by omega) hU h1 (by omega) h2 hN.kd hZ hnz hr (by omega) hN.tk.1 (by have:=hN.tk.2.1;omega) rfl hN.fit (by omega) h7
  have ht:s.at_.toNat=t:=by rw [h1];rfl
  rw [nsl_eq (by rw [ht]) (by rw [ht]) h7 rfl] at R
  rw [e1,e3,ht]
  exact R
 | done ds h0 _=>exact absurd h0 hp
theorem snstep_any (ha:a<4294967296) (hM:Much a p M) (hN:NI M tr s sn ds) (hL:Lists lo w h ⟨rq,ds,[],sn.map Int.ofNat⟩) (hq:rq.length≤60000) (htr:tr≤60000) (hU:US w B m d ys) (hm:lv M≤m) (hZ:IS .i64 lz w A n c zs) (hnz:n≤65536) (hr:risB M 0 zs=true) (hp:s.phase≠0) :
  Calls Tryz.prog 200 #[.agg #[.int .u32 (a:Int),.int .i64 p,.slice A n c,.int .i64 (ns:Int),.int .i64 wo,.int .i64 qu,.int .i64 (tr:Int)],.slice B m d,.agg (opv h s)] w (RetSw w.heap.size (nS M tr ys s sn) ⟨rq,nD a M zs ys s sn ds,[],(nN M ys s sn).map Int.ofNat⟩ (nB M tr ys s sn) w):=by
 have e0:(s.phase == 0)=false:=by simpa using hp
 have TK:=fun w (L:Lists lo w h ⟨rq,ds,[],sn.map Int.ofNat⟩) (U:US w B m d ys) (Z:IS .i64 lz w A n c zs)=>Lib.hid (nst_any (w:=w) (p:=p) (ns:=ns) (wo:=wo) (qu:=qu) (h:=h) ha hM hN L hq htr U hm Z hnz hr hp)
 obtain ⟨s2,hs2⟩:∃ s2,s2=nS M tr ys s sn:=⟨_,rfl⟩
 obtain ⟨l2,hl2⟩:∃ l2:Ls,l2=⟨rq,nD a M zs ys s sn ds,[],(nN M ys s sn).map Int.ofNat⟩:=⟨_,rfl⟩
 obtain ⟨b2,hb2⟩:∃ b2,b2=nB M tr ys s sn:=⟨_,rfl⟩
 simp only [← hs2,← hl2,← hb2] at TK ⊢
 clear hs2 hl2 hb2 hN ha hM hp
 go_enter Tryz.func200,Tryz.ntmps200
 go_upto_region 1 with (fail)
 have L:=Loc.start w
 generalize hal:World.alloc _ _=w1
 replace L:=L.a3 hal
 clear hal
 replace L:=L.is0 (opv hd0 sc0) rfl
 generalize w.heap.size+1+1=gR at L ⊢
 generalize w.heap.size+1=gO at L ⊢
 generalize w.heap.size=gH at L ⊢
 have O_8:=L.at_ 1 8 rfl (v:=.int .i64 s.phase) rfl
 have O_z:=L.lt 1 rfl
 go_wp2_with (first | (refine lC 3 (L.bk_ 2 rfl) ?_) | (refine lO 5 (L.bk_ 1 rfl) ?_))
 have KS:=L.K.size
 refine ((TK _ (hL.below L.K) (hU.below L.K) (hZ.below L.K)).out).mono ?_
 rintro e w2 ⟨h3,rfl,L',K'⟩
 clear O_8 O_z
 have Lb:=L.lts
 replace L:=L.over K'
 replace L:=L.lists Lb L'
 clear Lb
 try dsimp only [lF,List.cons_append,List.nil_append] at L
 clear L'
 go_wp2_with (refine sO 6 17 (L.bk_ 0 rfl) rfl rfl ?_)
 generalize hal:World.setRow _ _ _=w3
 replace L:=L.rr0 hal
 clear hal
 refine eCT Tryz.results200 (.bool b2) (L.bk_ 0 rfl) ?_
 exact ⟨_,rfl,(L.lists_at 0 rfl).lower_ KS,L.K⟩
theorem swbegin_any (hL:Lists lo w h l) (h0:h.n0≤65536) (h1:h.n1≤65536) (h2:h.n2≤65536) (h3:h.n3≤65536) :
  Calls Tryz.prog 201 #[.agg (opv h s)] w (RetBB (swLe s 6) (swNo l) w):=by
 have TOwn:=fun w (L:Lists lo w h l)=>Lib.hid (own_any (s:=s) L h0 h1 h2 h3)
 rcases s with ⟨kind,addr,err,aad,used,phase,shard,sought,leaf,bit,word,full,at_,tries,item,stamp⟩
 rcases h with ⟨A0,n0,c0,A1,n1,c1,A2,n2,c2,A3,n3,c3⟩
 dsimp only at *
 go_enter Tryz.func201,Tryz.ntmps201
 go_upto_region 1 with (fail)
 have L:=Loc.start w
 generalize hal:World.alloc _ _=w1
 replace L:=L.a2 hal
 clear hal
 replace L:=L.is0 (opv hd0 sc0) rfl
 generalize w.heap.size+1=gR at L ⊢
 generalize w.heap.size=gO at L ⊢
 go_wp2_with (refine lO 1 (L.bk_ 1 rfl) ?_)
 have KS:=L.K.size
 have LbO:=L.gs
 refine ((TOwn _ (hL.below L.K)).out).mono ?_
 rintro e w2 ⟨A0',c0',A1',c1',A2',c2',A3',c3',rfl,L',K'⟩
 have Lb:=L.lts
 replace L:=L.over K'
 replace L:=L.lists Lb L'
 replace L:=L.sz K'.size
 clear Lb
 try dsimp only [lF,List.cons_append,List.nil_append] at L
 clear L'
 go_wp2_with fail
 refine (anew_any).mono ?_
 rintro e w3 ⟨rfl,K'⟩
 replace L:=L.over K'
 go_wp2_with (refine sO 2 5 (L.bk_ 0 rfl) rfl rfl ?_)
 generalize hal:World.setRow _ _ _=w4
 replace L:=L.rr0 hal
 clear hal
 refine eC Tryz.results201 (L.bk_ 0 rfl) ?_
 exact ⟨_,rfl,(swLists (L.lists_at 1 rfl)).lower_ KS,L.K⟩
theorem snbegin_any (w:World) :
  Calls Tryz.prog 198 #[] w (RetBB nS0 ⟨[],[],[],[]⟩ w):=by
 have TB:∀ w,Hid (Calls Tryz.prog 201 #[.agg (opv hd0 ⟨6,0,0,0,false,0,0,0,0,0,0,false,0,0,0,0⟩)] w (RetBB nS0 ⟨[],[],[],[]⟩ w)):=fun w=>Lib.hid (swbegin_any (w:=w) (lo:=0) (s:=⟨6,0,0,0,false,0,0,0,0,0,0,false,0,0,0,0⟩) (Lists.hd0 w) (Nat.zero_le _) (Nat.zero_le _) (Nat.zero_le _) (Nat.zero_le _))
 go_enter Tryz.func198,Tryz.ntmps198
 go_upto_region 1 with (fail)
 have L:=Loc.start w
 generalize hal:World.alloc _ _=w1
 replace L:=L.a1 hal
 clear hal
 replace L:=L.is0 (opv hd0 sc0) rfl
 generalize w.heap.size=gR at L ⊢
 go_wp2_with fail
 have KS:=L.K.size
 refine ((TB _).out).mono ?_
 rintro e w2 ⟨h3,rfl,L',K'⟩
 have Lb:=L.lts
 replace L:=L.over K'
 replace L:=L.lists Lb L'
 clear Lb
 try dsimp only [lF,List.cons_append,List.nil_append] at L
 clear L'
 go_wp2_with (refine sO 0 3 (L.bk_ 0 rfl) rfl rfl ?_)
 generalize hal:World.setRow _ _ _=w3
 replace L:=L.rr0 hal
 clear hal
 refine eC Tryz.results198 (L.bk_ 0 rfl) ?_
 exact ⟨_,rfl,(L.lists_at (l:=⟨[],[],[],[]⟩) 0 rfl).lower_ KS,L.K⟩
end
end Go.Proofs.YtfhefofkhmkcnaaGreatDoor

/-
 What lodger/snap.Left answers of a snapshot that begins. Conditions: a configuration that may be.
-/
namespace Go.Proofs.YtfhefofkhmkcnaaGreatDoor
set_option maxRecDepth 100000
set_option maxHeartbeats 8000000
set_option maxRecDepth 100000
open Go.RowKit
set_option linter.unusedVariables false
section
variable {w:World} {a M tr n c:Nat} {p sh wo qu:Int} {A:Option Addr}
theorem snclo {gL:Nat} {lm k P:Int} (hc:w.cell? ⟨gL,0,none⟩=some (.int .i64 lm)) (hz:gL<w.heap.size) (hP:k*2*lm=P) (h0 : -100000≤k) (h1:k≤100000) (h2 : -1000000000≤P) (h3:P≤1000000000) :
  Calls Tryz.prog 202 #[.int .i64 k,.pointer (some ⟨gL,0,none⟩)] w fun e w'=>e=.returned (.int .i64 P)∧w'=w:=by
 have e0:IntKind.i64.wrap (k*2)=k*2:=IntWalk.i64_in _ (by omega)
 have e2:IntKind.i64.wrap P=P:=IntWalk.i64_in _ (by omega)
 go_enter Tryz.func202,Tryz.ntmps202
 go_wp2
 go_ret
 exact ⟨rfl,rfl⟩
theorem snleft (ha:a<4294967296) (hM:Much a p M) (htr:tr≤60000) (h:Hd) :
  Calls Tryz.prog 199 #[.agg #[.int .u32 (a:Int),.int .i64 p,.slice A n c,.int .i64 sh,.int .i64 wo,.int .i64 qu,.int .i64 (tr:Int)],.agg (opv h nS0)] w fun e w'=>e=.returned (.int .i64 ((2*lv M*tr:Nat):Int))∧Below w.heap.size w w':=by
 have hm:=hM.most
 have hl:=lv_le hm
 have TM:=fun w=>Lib.hid (many_yes (w:=w) ha hM)
 have TL:=fun w=>Lib.hid (leaves_any M hm w)
 have b1:2*lv M*tr≤2*2048*60000:=Nat.mul_le_mul (by omega) htr
 generalize hlm:lv M=lm at *
 have e1:((tr:Int) - 1)*2*(lm:Int)=((2*lm*tr:Nat):Int) - 2*lm:=by
  push_cast
  rw [Int.mul_assoc,Int.sub_mul,Int.one_mul,Int.mul_comm (tr:Int)]
 generalize 2*lm*tr=P at *
 have T1:∀ w gL,w.cell? ⟨gL,0,none⟩=some (.int .i64 (lm:Int))→gL<w.heap.size→Hid (Calls Tryz.prog 202 #[.int .i64 1,.pointer (some ⟨gL,0,none⟩)] w fun e w'=>e=.returned (.int .i64 (2*lm))∧w'=w):=fun w gL hc hz=>Lib.hid (snclo (k:=1) hc hz (by omega) (by omega) (by omega) (by omega) (by omega))
 have T2:=fun w gL hc hz=>Lib.hid (snclo (w:=w) (gL:=gL) hc hz e1 (by omega) (by omega) (by omega) (by omega))
 have w2:IntKind.i64.wrap (tr:Int)=(tr:Int):=IntWalk.i64_in _ (by omega)
 have w1:IntKind.i64.wrap ((tr:Int) - 1)=(tr:Int) - 1:=IntWalk.i64_in _ (by omega)
 have w3:IntKind.i64.wrap (2*(lm:Int))=2*(lm:Int):=IntWalk.i64_in _ (by omega)
 have w5:2*(lm:Int)+((P:Int) - 2*(lm:Int))=P:=by omega
 have w4:IntKind.i64.wrap (P:Int)=P:=IntWalk.i64_in _ (by omega)
 clear e1 b1 hlm
 go_enter Tryz.func199,Tryz.ntmps199
 go_upto_region 1 with (fail)
 have L:=Loc.start w
 generalize hal:World.alloc _ _=w1
 replace L:=L.a2 hal
 clear hal
 generalize w.heap.size+1=gO at L ⊢
 generalize w.heap.size=gC at L ⊢
 have C0:=L.at_ 1 0 rfl (v:=.int .u32 (a:Int)) rfl
 have C1:=L.at_ 1 1 rfl (v:=.int .i64 p) rfl
 have Cz:=L.lt 1 rfl
 have O8:=L.at_ 0 8 rfl (v:=.int .i64 6) rfl
 have Oz:=L.lt 0 rfl
 go_wp2_with (first | ((with_reducible refine (TM _).out.mono ?_);rintro _ w2 ⟨rfl,K'⟩;clear C0 C1 Cz O8 Oz;replace L:=L.over K';clear K';have O8:=L.at_ 0 8 rfl (v:=.int .i64 6) rfl;have Oz:=L.lt 0 rfl) | ((with_reducible refine (TL _).out.mono ?_);rintro _ w3 ⟨rfl,rfl⟩))
 generalize hal:World.alloc _ _=w4
 replace L:=L.a1 hal
 clear hal
 generalize w2.heap.size=gL at L ⊢
 have Oa:=L.at_ 1 16 rfl (v:=.int .i64 0) rfl
 have Ob:=L.at_ 1 17 rfl (v:=.int .i64 0) rfl
 have O8:=L.at_ 1 8 rfl (v:=.int .i64 6) rfl
 have Oz:=L.lt 1 rfl
 have C6:=L.at_ 2 6 rfl (v:=.int .i64 ((tr:Int))) rfl
 have Cz:=L.lt 2 rfl
 have L0:=L.at_ 0 0 rfl (v:=.int .i64 (lm:Int)) rfl
 have Lz:=L.lt 0 rfl
 have Lq:∀ n,(w4.drewN n).cell? ⟨gL,0,none⟩=some (.int .i64 (lm:Int))∧gL<(w4.drewN n).heap.size:=fun n=>have L:=L.over (below_drewN (Below.refl _ _) n);⟨L.at_ 0 0 rfl (v:=.int .i64 (lm:Int)) rfl,L.lt 0 rfl⟩
 go_quiet (refine Calls.quiet_of_same (T1 _ _ (Lq _).1 (Lq _).2).out)
 generalize hd:World.drewN _ _=w5
 replace L:=L.over (hd ▸ below_drewN (Below.refl _ _) _)
 clear Oa Ob O8 Oz C6 Cz L0 Lz hd Lq
 have Ob:=L.at_ 1 17 rfl (v:=.int .i64 0) rfl
 have O8:=L.at_ 1 8 rfl (v:=.int .i64 6) rfl
 have Oz:=L.lt 1 rfl
 have C6:=L.at_ 2 6 rfl (v:=.int .i64 ((tr:Int))) rfl
 have Cz:=L.lt 2 rfl
 have L0:=L.at_ 0 0 rfl (v:=.int .i64 (lm:Int)) rfl
 have Lz:=L.lt 0 rfl
 go_wp2_with (refine (T2 _ _ L0 Lz).out.mono ?_;rintro _ w6 ⟨rfl,rfl⟩)
 go_ret
 exact ⟨rfl,L.K⟩
end
end Go.Proofs.YtfhefofkhmkcnaaGreatDoor

/-
  What lodger/pool.of, .asked, .Begin, .Step and .Told answer. Conditions: a configuration that may be, an operation where it may be.
-/
namespace Go.Proofs.YtfhefofkhmkcnaaGreatDoor
set_option maxRecDepth 100000
set_option maxRecDepth 100000
open Go.RowKit
set_option linter.unusedVariables false
section
variable {w : World} {lo lo2 lz a M m d ns tr N item X n0 c0 : Nat} {p wo qu k hd : Int} {A A0 B : Option Addr} {n c : Nat} {zs rq : List Int} {ys : List Nat} {h : Hd} {s : Sc} {l : Ls}
theorem pof_1 (w : World) : Calls Tryz.prog 48 #[.int .i64 1] w fun e w' => e = .returned (.iface 106 (.agg #[])) ∧ w = w' := by
  go_enter Tryz.func48, Tryz.ntmps48
  go_wp2
  go_ret
  exact ⟨rfl, rfl⟩
theorem pof_2 (w : World) : Calls Tryz.prog 48 #[.int .i64 2] w fun e w' => e = .returned (.iface 107 (.agg #[])) ∧ w = w' := by
  go_enter Tryz.func48, Tryz.ntmps48
  go_wp2
  go_ret
  exact ⟨rfl, rfl⟩
theorem pof_5 (w : World) : Calls Tryz.prog 48 #[.int .i64 5] w fun e w' => e = .returned (.iface 107 (.agg #[])) ∧ w = w' := by
  go_enter Tryz.func48, Tryz.ntmps48
  go_wp2
  go_ret
  exact ⟨rfl, rfl⟩
theorem pof_3 (w : World) : Calls Tryz.prog 48 #[.int .i64 3] w fun e w' => e = .returned (.iface 108 (.agg #[])) ∧ w = w' := by
  go_enter Tryz.func48, Tryz.ntmps48
  go_wp2
  go_ret
  exact ⟨rfl, rfl⟩
theorem pof_4 (w : World) : Calls Tryz.prog 48 #[.int .i64 4] w fun e w' => e = .returned (.iface 108 (.agg #[])) ∧ w = w' := by
  go_enter Tryz.func48, Tryz.ntmps48
  go_wp2
  go_ret
  exact ⟨rfl, rfl⟩
theorem pof_6 (w : World) : Calls Tryz.prog 48 #[.int .i64 6] w fun e w' => e = .returned (.iface 109 (.agg #[])) ∧ w = w' := by
  go_enter Tryz.func48, Tryz.ntmps48
  go_wp2
  go_ret
  exact ⟨rfl, rfl⟩
theorem pof_7 (w : World) : Calls Tryz.prog 48 #[.int .i64 7] w fun e w' => e = .returned (.iface 101 (.agg #[.int .i64 0])) ∧ w = w' := by
  go_enter Tryz.func48, Tryz.ntmps48
  go_wp2
  go_ret
  exact ⟨rfl, rfl⟩
set_option maxHeartbeats 4000000 in
theorem pask_no (hW : Laid w) (ha : a < 4294967296) (hM : Much a p M) (hZ : IS .i64 lz w A n c zs) (hn : n ≤ 60000) (hX : X < 4294967296) (hI : IS .u32 lo2 w A0 n0 c0 rq) (hn0 : n0 ≤ 60000) (hw : W32 rq) (he : askE a M zs k (X : Int) rq ≠ 0) :
    Calls Tryz.prog 38 #[.agg #[.int .u32 (a : Int), .int .i64 p, .slice A n c, .int .i64 (ns : Int), .int .i64 wo, .int .i64 qu, .int .i64 (tr : Int)], .agg #[.int .i64 k, .int .u32 (X : Int), .slice A0 n0 c0]] w fun e w' => e = .returned (.iface 101 (.agg #[.int .i64 (askE a M zs k (X : Int) rq)])) ∧ Below w.heap.size w w' := by
  have TC := fun w (hW : Laid w) (hZ : IS .i64 lz w A n c zs) (hI : IS .u32 lo2 w A0 n0 c0 rq) => Lib.hid (check_any (p := p) (sh := (ns : Int)) (wo := wo) (qu := qu) (tr := (tr : Int)) (k := k) hW ha hM hZ (by omega) hI hn0 hX hw)
  obtain ⟨E, hE⟩ : ∃ E, askE a M zs k (X : Int) rq = E := ⟨_, rfl⟩
  simp only [hE] at TC he ⊢
  have Z : (E != 0) = true := by simpa using he
  clear he hE
  go_enter Tryz.func38, Tryz.ntmps38
  go_upto_region 1 with (fail)
  have L := Loc.start w
  generalize hal : World.alloc _ _ = w1
  replace L := L.a2 hal
  clear hal
  generalize w.heap.size + 1 = gQ at L ⊢
  generalize w.heap.size = gH at L ⊢
  obtain ⟨Q0, Q1, Q2, Qz⟩ := c3 (L.bk_ 0 rfl)
  go_wp2_with (first | refine lC 2 (L.bk_ 1 rfl) ?_ | ((with_reducible refine (TC _ (hW.below L.K) (hZ.below L.K) (hI.below L.K)).out.mono ?_); rintro _ w2 ⟨rfl, K'⟩; clear Q0 Q1 Q2 Qz; replace L := L.over K'; clear K'))
  go_ret
  exact ⟨rfl, L.K⟩
set_option maxHeartbeats 4000000 in
theorem pask_yes {v : Value} (hW : Laid w) (ha : a < 4294967296) (hM : Much a p M) (hZ : IS .i64 lz w A n c zs) (hn : n ≤ 60000) (hX : X < 4294967296) (hI : IS .u32 lo2 w A0 n0 c0 rq) (hn0 : n0 ≤ 60000) (hw : W32 rq) (he : askE a M zs k (X : Int) rq = 0) (TO : ∀ w, Hid (Calls Tryz.prog 48 #[.int .i64 k] w fun e w' => e = .returned (v) ∧ w = w')) :
    Calls Tryz.prog 38 #[.agg #[.int .u32 (a : Int), .int .i64 p, .slice A n c, .int .i64 (ns : Int), .int .i64 wo, .int .i64 qu, .int .i64 (tr : Int)], .agg #[.int .i64 k, .int .u32 (X : Int), .slice A0 n0 c0]] w fun e w' => e = .returned v ∧ Below w.heap.size w w' := by
  have TC := fun w (hW : Laid w) (hZ : IS .i64 lz w A n c zs) (hI : IS .u32 lo2 w A0 n0 c0 rq) => Lib.hid (he ▸ check_any (p := p) (sh := (ns : Int)) (wo := wo) (qu := qu) (tr := (tr : Int)) (k := k) hW ha hM hZ (by omega) hI hn0 hX hw)
  clear he
  go_enter Tryz.func38, Tryz.ntmps38
  go_upto_region 1 with (fail)
  have L := Loc.start w
  generalize hal : World.alloc _ _ = w1
  replace L := L.a2 hal
  clear hal
  generalize w.heap.size + 1 = gQ at L ⊢
  generalize w.heap.size = gH at L ⊢
  obtain ⟨Q0, Q1, Q2, Qz⟩ := c3 (L.bk_ 0 rfl)
  go_wp2_with (first | refine lC 2 (L.bk_ 1 rfl) ?_ | ((with_reducible refine (TC _ (hW.below L.K) (hZ.below L.K) (hI.below L.K)).out.mono ?_); rintro _ w2 ⟨rfl, K'⟩; clear Q0 Q1 Q2 Qz; replace L := L.over K'; clear K'; obtain ⟨Q0, Q1, Q2, Qz⟩ := c3 (L.bk_ 0 rfl)) | ((with_reducible refine (TO _).out.mono ?_); rintro _ w3 ⟨rfl, rfl⟩))
  go_ret
  exact ⟨rfl, L.K⟩
set_option maxHeartbeats 4000000 in
theorem pm_g {s2 : Sc} {l2 : Ls} {y2 : List Nat} {b2 : Bool} (hm0 : 0 < m) (hU : US w B m d ys) (hL : Lists lo w h l)
    (TK : ∀ w', Below w.heap.size w w' → US w' B m d ys → Lists lo w' h l → Hid (Calls Tryz.prog 113 #[.agg #[.int .u32 (a : Int), .int .i64 p, .slice A n c, .int .i64 (ns : Int), .int .i64 wo, .int .i64 qu, .int .i64 (tr : Int)], .slice B m d, .agg (opv h s)] w' (RetX s2 l2 m y2 b2 B w'))) :
    Calls Tryz.prog 111 #[.agg #[], .agg #[.int .u32 (a : Int), .int .i64 p, .slice A n c, .int .i64 (ns : Int), .int .i64 wo, .int .i64 qu, .int .i64 (tr : Int)], .slice B m d, .agg (opv h s)] w (RetX s2 l2 m y2 b2 B w) := by
  go_enter Tryz.func111, Tryz.ntmps111
  go_upto_region 1 with (fail)
  have L := Loc.start w
  generalize hal : World.alloc _ _ = w1
  replace L := L.a4 hal
  clear hal
  generalize w.heap.size + 1 + 1 + 1 = gR at L ⊢
  generalize w.heap.size + 1 + 1 = gO at L ⊢
  generalize w.heap.size + 1 = gH at L ⊢
  generalize w.heap.size = gE at L ⊢
  go_wp2_with (first | refine lC 5 (L.bk_ 2 rfl) ?_ | refine lO 7 (L.bk_ 1 rfl) ?_)
  have KS := L.K.size
  refine (TK _ L.K (hU.below L.K) (hL.below L.K)).out.mono ?_
  rintro _ w3 ⟨h3, B2, d2, rfl, U, L', hA, K'⟩
  have Lb := L.lts
  have L0 := L
  replace L := L.over K'
  replace L := L.us_av (fun i b e => hA b.1 (Lb i b e) (hU.apart0 hm0 L0 i b e)) U
  replace L := L.lists Lb L'
  clear L0 Lb U L' K'
  go_wp2_with (refine sO 9 16 (L.bk_ 0 rfl) rfl rfl ?_)
  generalize hal : World.setRow _ _ _ = w4
  replace L := L.rr0 hal
  clear hal
  refine eTCT Tryz.results111 (.slice B2 m d2) (.bool b2) (L.bk_ 0 rfl) ?_
  exact ⟨_, _, _, rfl, L.us_ 4 rfl, (L.lists_at 0 rfl).lower_ KS, fun k hk => hA k (Nat.lt_of_lt_of_le hk KS), L.K⟩
set_option maxHeartbeats 4000000 in
theorem pm_x {s2 : Sc} {l2 : Ls} {y2 : List Nat} {b2 : Bool} (hm0 : 0 < m) (hU : US w B m d ys) (hL : Lists lo w h l)
    (TK : ∀ w', Below w.heap.size w w' → US w' B m d ys → Lists lo w' h l → Hid (Calls Tryz.prog 173 #[.agg #[.int .u32 (a : Int), .int .i64 p, .slice A n c, .int .i64 (ns : Int), .int .i64 wo, .int .i64 qu, .int .i64 (tr : Int)], .slice B m d, .agg (opv h s)] w' (RetX s2 l2 m y2 b2 B w'))) :
    Calls Tryz.prog 171 #[.agg #[], .agg #[.int .u32 (a : Int), .int .i64 p, .slice A n c, .int .i64 (ns : Int), .int .i64 wo, .int .i64 qu, .int .i64 (tr : Int)], .slice B m d, .agg (opv h s)] w (RetX s2 l2 m y2 b2 B w) := by
  go_enter Tryz.func171, Tryz.ntmps171
  go_upto_region 1 with (fail)
  have L := Loc.start w
  generalize hal : World.alloc _ _ = w1
  replace L := L.a4 hal
  clear hal
  generalize w.heap.size + 1 + 1 + 1 = gR at L ⊢
  generalize w.heap.size + 1 + 1 = gO at L ⊢
  generalize w.heap.size + 1 = gH at L ⊢
  generalize w.heap.size = gE at L ⊢
  go_wp2_with (first | refine lC 5 (L.bk_ 2 rfl) ?_ | refine lO 7 (L.bk_ 1 rfl) ?_)
  have KS := L.K.size
  refine (TK _ L.K (hU.below L.K) (hL.below L.K)).out.mono ?_
  rintro _ w3 ⟨h3, B2, d2, rfl, U, L', hA, K'⟩
  have Lb := L.lts
  have L0 := L
  replace L := L.over K'
  replace L := L.us_av (fun i b e => hA b.1 (Lb i b e) (hU.apart0 hm0 L0 i b e)) U
  replace L := L.lists Lb L'
  clear L0 Lb U L' K'
  go_wp2_with (refine sO 9 16 (L.bk_ 0 rfl) rfl rfl ?_)
  generalize hal : World.setRow _ _ _ = w4
  replace L := L.rr0 hal
  clear hal
  refine eTCT Tryz.results171 (.slice B2 m d2) (.bool b2) (L.bk_ 0 rfl) ?_
  exact ⟨_, _, _, rfl, L.us_ 4 rfl, (L.lists_at 0 rfl).lower_ KS, fun k hk => hA k (Nat.lt_of_lt_of_le hk KS), L.K⟩
set_option maxHeartbeats 4000000 in
theorem pm_b {s2 : Sc} {l2 : Ls} {y2 : List Nat} {b2 : Bool} (hm0 : 0 < m) (hU : US w B m d ys) (hL : Lists lo w h l)
    (TK : ∀ w', Below w.heap.size w w' → US w' B m d ys → Lists lo w' h l → Hid (Calls Tryz.prog 183 #[.agg #[.int .u32 (a : Int), .int .i64 p, .slice A n c, .int .i64 (ns : Int), .int .i64 wo, .int .i64 qu, .int .i64 (tr : Int)], .slice B m d, .agg (opv h s)] w' (RetX s2 l2 m y2 b2 B w'))) :
    Calls Tryz.prog 181 #[.agg #[], .agg #[.int .u32 (a : Int), .int .i64 p, .slice A n c, .int .i64 (ns : Int), .int .i64 wo, .int .i64 qu, .int .i64 (tr : Int)], .slice B m d, .agg (opv h s)] w (RetX s2 l2 m y2 b2 B w) := by
  go_enter Tryz.func181, Tryz.ntmps181
  go_upto_region 1 with (fail)
  have L := Loc.start w
  generalize hal : World.alloc _ _ = w1
  replace L := L.a4 hal
  clear hal
  generalize w.heap.size + 1 + 1 + 1 = gR at L ⊢
  generalize w.heap.size + 1 + 1 = gO at L ⊢
  generalize w.heap.size + 1 = gH at L ⊢
  generalize w.heap.size = gE at L ⊢
  go_wp2_with (first | refine lC 5 (L.bk_ 2 rfl) ?_ | refine lO 7 (L.bk_ 1 rfl) ?_)
  have KS := L.K.size
  refine (TK _ L.K (hU.below L.K) (hL.below L.K)).out.mono ?_
  rintro _ w3 ⟨h3, B2, d2, rfl, U, L', hA, K'⟩
  have Lb := L.lts
  have L0 := L
  replace L := L.over K'
  replace L := L.us_av (fun i b e => hA b.1 (Lb i b e) (hU.apart0 hm0 L0 i b e)) U
  replace L := L.lists Lb L'
  clear L0 Lb U L' K'
  go_wp2_with (refine sO 9 16 (L.bk_ 0 rfl) rfl rfl ?_)
  generalize hal : World.setRow _ _ _ = w4
  replace L := L.rr0 hal
  clear hal
  refine eTCT Tryz.results181 (.slice B2 m d2) (.bool b2) (L.bk_ 0 rfl) ?_
  exact ⟨_, _, _, rfl, L.us_ 4 rfl, (L.lists_at 0 rfl).lower_ KS, fun k hk => hA k (Nat.lt_of_lt_of_le hk KS), L.K⟩
set_option maxHeartbeats 4000000 in
theorem pm_s {s2 : Sc} {l2 : Ls} {b2 : Bool} (hU : US w B m d ys) (hL : Lists lo w h l)
    (TK : ∀ w', Below w.heap.size w w' → US w' B m d ys → Lists lo w' h l → Hid (Calls Tryz.prog 200 #[.agg #[.int .u32 (a : Int), .int .i64 p, .slice A n c, .int .i64 (ns : Int), .int .i64 wo, .int .i64 qu, .int .i64 (tr : Int)], .slice B m d, .agg (opv h s)] w' (RetSw w'.heap.size s2 l2 b2 w'))) :
    Calls Tryz.prog 197 #[.agg #[], .agg #[.int .u32 (a : Int), .int .i64 p, .slice A n c, .int .i64 (ns : Int), .int .i64 wo, .int .i64 qu, .int .i64 (tr : Int)], .slice B m d, .agg (opv h s)] w (RetX s2 l2 m ys b2 B w) := by
  go_enter Tryz.func197, Tryz.ntmps197
  go_upto_region 1 with (fail)
  have L := Loc.start w
  replace L := ((((L).alloc #[] 109).alloc #[.int .u32 (a : Int), .int .i64 p, .slice A n c, .int .i64 (ns : Int), .int .i64 wo, .int .i64 qu, .int .i64 (tr : Int)] 27).alloc (opv h s) 43).alloc #[.int .i64 0, .int .u32 0, .slice none 0 0, .int .i64 0, .int .u32 0, .bool false, .slice none 0 0, .slice none 0 0, .int .i64 0, .int .i64 0, .int .i64 0, .int .i64 0, .int .i64 0, .int .u64 0, .bool false, .slice none 0 0, .int .i64 0, .int .i64 0, .int .i64 0, .int .i64 0] 43
  try simp only [World.size_alloc] at L
  replace L := L.is 0 (opv hd0 sc0) rfl
  try dsimp only [nput] at L
  generalize ((((w).alloc (.cells #[] 109)).alloc (.cells #[.int .u32 (a : Int), .int .i64 p, .slice A n c, .int .i64 (ns : Int), .int .i64 wo, .int .i64 qu, .int .i64 (tr : Int)] 27)).alloc (.cells (opv h s) 43)).alloc (.cells #[.int .i64 0, .int .u32 0, .slice none 0 0, .int .i64 0, .int .u32 0, .bool false, .slice none 0 0, .slice none 0 0, .int .i64 0, .int .i64 0, .int .i64 0, .int .i64 0, .int .i64 0, .int .u64 0, .bool false, .slice none 0 0, .int .i64 0, .int .i64 0, .int .i64 0, .int .i64 0] 43) = w1 at L ⊢
  generalize w.heap.size + 1 + 1 + 1 = gR at L ⊢
  generalize w.heap.size + 1 + 1 = gO at L ⊢
  generalize w.heap.size + 1 = gH at L ⊢
  generalize w.heap.size = gE at L ⊢
  go_wp2_with (first | (refine wpList_load_row rfl 27 (.tmp 5) rfl gH rfl _ _ (0, 0) _ (L.bk_ 2 rfl) Tryz.underlying27 rfl cf_sz ?_) | (refine wpList_load_row rfl 43 (.tmp 7) rfl gO rfl _ _ (0, 0) _ (L.bk_ 1 rfl) Tryz.underlying43 rfl op_sz ?_))
  have KS := L.K.size
  refine ((TK _ L.K (hU.below L.K) (hL.below L.K)).out).mono ?_
  rintro e w2 ⟨h3, rfl, L', K'⟩
  have Lb := L.lts
  replace L := L.over K'
  replace L := L.lists Lb L'
  clear Lb
  try dsimp only [lF, List.cons_append, List.nil_append] at L
  clear L'
  go_upto_region 2 with (refine wpList_store_row rfl 43 (.tmp 7) (.tmp 17) rfl gO _ rfl rfl _ _ (L.bk_ 1 rfl) op_sz rfl (opv_one _ _) ?_)
  replace L := (L.row 1 rfl (opv h3 s2))
  try dsimp only [nput] at L
  generalize (w2).setRow gO (opv h3 s2) = w3 at L ⊢
  replace L := L.drew
  refine wp_region_held_drew (S := fun w' => ∃ v_R : Array Value, v_R.size = 20 ∧ Loc w w' [(gR, 43, v_R), (gO, 43, opv h3 s2), (gH, 27, #[.int .u32 (a : Int), .int .i64 p, .slice A n c, .int .i64 (ns : Int), .int .i64 wo, .int .i64 qu, .int .i64 (tr : Int)]), (gE, 109, #[])] [iF .u32 w1.heap.size h3.A0 h3.n0 h3.c0 l2.rqs, iF .u32 w1.heap.size h3.A1 h3.n1 h3.c1 l2.ads, iF .i64 w1.heap.size h3.A2 h3.n2 h3.c2 l2.ers, iF .u64 w1.heap.size h3.A3 h3.n3 h3.c3 l2.ses]) (by kernel_rfl) (⟨_, rfl, L⟩) (fun hHeld => ?_)
  generalize w3.drew = v4 at hHeld L ⊢
  refine wpAnyH_take (i := 0) (oi := ⟨some 19, _, _, _, _, _⟩) (v := .slice B m d) rfl (by kernel_rfl) (by kernel_rfl) (by kernel_rfl) (fun _ _ _ h => h) (Or.inl ⟨by rfl, ?_⟩) hHeld ?_
  · intro ww hS
    try dsimp only at hS
    go_simp
    try with_reducible rfl
    try omega
  try simp only [Act.put, List.setIfInBounds_toArray, List.set_cons_zero, List.set_cons_succ]
  refine wpAnyH_take (i := 1) (oi := ⟨some 20, _, _, _, _, _⟩) (v := .agg (opv h3 s2)) rfl (by kernel_rfl) (by kernel_rfl) (by kernel_rfl) (fun _ _ _ h => h) (yieldsIf_load_row (by rfl) 43 (.tmp 7) rfl gO rfl 43 _ (0, 0) _ (fun _ hS => ((hS.choose_spec.2).bk_ 1 rfl)) Tryz.underlying43 rfl op_sz) hHeld ?_
  try simp only [Act.put, List.setIfInBounds_toArray, List.set_cons_zero, List.set_cons_succ]
  refine wpAnyH_take (i := 2) (oi := ⟨some 21, _, _, _, _, _⟩) (v := .bool b2) rfl (by kernel_rfl) (by kernel_rfl) (by kernel_rfl) (fun _ _ _ h => h) (Or.inl ⟨by rfl, ?_⟩) hHeld ?_
  · intro ww hS
    try dsimp only at hS
    go_simp
    try with_reducible rfl
    try omega
  try simp only [Act.put, List.setIfInBounds_toArray, List.set_cons_zero, List.set_cons_succ]
  refine wpAnyH_take (i := 3) (oi := ⟨some 8, _, _, _, _, _⟩) (v := .slice B m d) rfl (by kernel_rfl) (by kernel_rfl) (by kernel_rfl) (fun _ _ _ h => h) (Or.inl ⟨by rfl, ?_⟩) hHeld ?_
  · intro ww hS
    try dsimp only at hS
    go_simp
    try with_reducible rfl
    try omega
  try simp only [Act.put, List.setIfInBounds_toArray, List.set_cons_zero, List.set_cons_succ]
  refine wpAnyH_ready (rs := [4]) (by kernel_rfl) (by simp) ?_
  refine AllReadyH.cons (o := ⟨none, _, _, _, _, _⟩) rfl (fun K0 hK => ?_) AllReadyH.nil
  rw [if_pos (by rfl)]
  refine wp_store_row 43 (.tmp 9) (.tmp 20) rfl gR _ rfl rfl _ _ (L.bk_ 0 rfl) op_sz rfl (opv_one _ _) ?_
  replace L := L.row 0 rfl (opv h3 s2)
  try dsimp only [nput] at L
  refine hK.out _ _ ⟨_, rfl, L⟩ (fun hHeld' => ?_)
  clear hHeld hK K0
  have hHeld := hHeld'
  clear hHeld'
  generalize v4.setRow gR (opv h3 s2) = v5 at hHeld L ⊢
  try simp only [Act.put]
  refine wpAnyH_take (i := 5) (oi := ⟨some 10, _, _, _, _, _⟩) (v := .bool b2) rfl (by kernel_rfl) (by kernel_rfl) (by kernel_rfl) (fun _ _ _ h => h) (Or.inl ⟨by rfl, ?_⟩) hHeld ?_
  · intro ww hS
    try dsimp only at hS
    go_simp
    try with_reducible rfl
    try omega
  try simp only [Act.put, List.setIfInBounds_toArray, List.set_cons_zero, List.set_cons_succ]
  refine wpAnyH_done (by kernel_rfl) ?_ _
  clear hHeld
  go_wp2
  refine eTCT Tryz.results197 (.slice B m d) (.bool b2) (L.bk_ 0 rfl) ?_
  exact ⟨_, _, _, rfl, hU.below L.K, (L.lists_at 0 rfl).lower_ KS, fun k _ h => h, L.K⟩
set_option maxHeartbeats 4000000 in
theorem pstp_to {f T : Nat} {rv : Value} {s2 : Sc} {l2 : Ls} {y2 : List Nat} {b2 : Bool} (hff : f = 111 ∨ f = 171 ∨ f = 181 ∨ f = 197) (hrv : rv = .agg #[]) (hm : ∀ w, (method 308 T rv "lodger/pool.steps").run Tryz.prog w = .ok (f, rv) w) (hm0 : 0 < m) (hU : US w B m d ys) (hL : Lists lo w h l)
    (TO : ∀ w, Hid (Calls Tryz.prog 48 #[.int .i64 s.kind] w fun e w' => e = .returned (.iface T (.agg #[])) ∧ w = w'))
    (TK : ∀ w', Below w.heap.size w w' → US w' B m d ys → Lists lo w' h l → Hid (Calls Tryz.prog f #[.agg #[], .agg #[.int .u32 (a : Int), .int .i64 p, .slice A n c, .int .i64 (ns : Int), .int .i64 wo, .int .i64 qu, .int .i64 (tr : Int)], .slice B m d, .agg (opv h s)] w' (RetX s2 l2 m y2 b2 B w'))) :
    Calls Tryz.prog 16 #[.agg #[.int .u32 (a : Int), .int .i64 p, .slice A n c, .int .i64 (ns : Int), .int .i64 wo, .int .i64 qu, .int .i64 (tr : Int)], .slice B m d, .agg (opv h s)] w (RetX s2 l2 m y2 b2 B w) := by
  subst hrv
  go_enter Tryz.func16, Tryz.ntmps16
  go_upto_region 1 with (fail)
  have L := Loc.start w
  replace L := (((L).alloc #[.int .u32 (a : Int), .int .i64 p, .slice A n c, .int .i64 (ns : Int), .int .i64 wo, .int .i64 qu, .int .i64 (tr : Int)] 27).alloc (opv h s) 43).alloc #[.int .i64 0, .int .u32 0, .slice none 0 0, .int .i64 0, .int .u32 0, .bool false, .slice none 0 0, .slice none 0 0, .int .i64 0, .int .i64 0, .int .i64 0, .int .i64 0, .int .i64 0, .int .u64 0, .bool false, .slice none 0 0, .int .i64 0, .int .i64 0, .int .i64 0, .int .i64 0] 43
  try simp only [World.size_alloc] at L
  replace L := L.is 0 (opv hd0 sc0) rfl
  try dsimp only [nput] at L
  generalize (((w).alloc (.cells #[.int .u32 (a : Int), .int .i64 p, .slice A n c, .int .i64 (ns : Int), .int .i64 wo, .int .i64 qu, .int .i64 (tr : Int)] 27)).alloc (.cells (opv h s) 43)).alloc (.cells #[.int .i64 0, .int .u32 0, .slice none 0 0, .int .i64 0, .int .u32 0, .bool false, .slice none 0 0, .slice none 0 0, .int .i64 0, .int .i64 0, .int .i64 0, .int .i64 0, .int .i64 0, .int .u64 0, .bool false, .slice none 0 0, .int .i64 0, .int .i64 0, .int .i64 0, .int .i64 0] 43) = w1 at L ⊢
  generalize w.heap.size + 1 + 1 = gR at L ⊢
  generalize w.heap.size + 1 = gO at L ⊢
  generalize w.heap.size = gH at L ⊢
  rcases hff with rfl | rfl | rfl | rfl
  all_goals
    replace L := L.drew
    refine wp_region_held_drew (S := fun w' => ∃ v_R : Array Value, v_R.size = 20 ∧ Loc w w' [(gR, 43, v_R), (gO, 43, opv h s), (gH, 27, #[.int .u32 (a : Int), .int .i64 p, .slice A n c, .int .i64 (ns : Int), .int .i64 wo, .int .i64 qu, .int .i64 (tr : Int)])] []) (by kernel_rfl) (⟨_, rfl, L⟩) (fun hHeld => ?_)
    generalize w1.drew = v2 at hHeld L ⊢
    refine wpAnyH_take (i := 0) (oi := ⟨some 9, _, _, _, _, _⟩) (v := .pointer (some ⟨gO, 0, none⟩)) rfl (by kernel_rfl) (by kernel_rfl) (by kernel_rfl) (fun _ _ _ h => h) (Or.inl ⟨by rfl, ?_⟩) hHeld ?_
    · intro ww hS
      try dsimp only at hS
      go_simp
      try with_reducible rfl
      try omega
    try simp only [Act.put, List.setIfInBounds_toArray, List.set_cons_zero, List.set_cons_succ]
    refine wpAnyH_take (i := 1) (oi := ⟨some 10, _, _, _, _, _⟩) (v := .pointer (some ⟨gO, 0, none⟩)) rfl (by kernel_rfl) (by kernel_rfl) (by kernel_rfl) (fun _ _ _ h => h) (Or.inl ⟨by rfl, ?_⟩) hHeld ?_
    · intro ww hS
      try dsimp only at hS
      go_simp
      try with_reducible rfl
      try omega
    try simp only [Act.put, List.setIfInBounds_toArray, List.set_cons_zero, List.set_cons_succ]
    refine wpAnyH_take (i := 2) (oi := ⟨some 11, _, _, _, _, _⟩) (v := .int .i64 s.kind) rfl (by kernel_rfl) (by kernel_rfl) (by kernel_rfl) (fun _ _ _ h => h) (Or.inl ⟨by rfl, ?_⟩) hHeld ?_
    · intro ww hS
      try dsimp only at hS
      have O_0 := (hS.choose_spec.2).at_ 1 0 rfl (v := .int .i64 s.kind) rfl
      have O_z := (hS.choose_spec.2).lt 1 rfl
      go_simp
      try with_reducible rfl
      try omega
    try simp only [Act.put, List.setIfInBounds_toArray, List.set_cons_zero, List.set_cons_succ]
    refine wpAnyH_take (i := 4) (oi := ⟨some 13, _, _, _, _, _⟩) (v := .agg (#[.int .u32 (a : Int), .int .i64 p, .slice A n c, .int .i64 (ns : Int), .int .i64 wo, .int .i64 qu, .int .i64 (tr : Int)])) rfl (by kernel_rfl) (by kernel_rfl) (by kernel_rfl) (fun _ _ _ h => h) (yieldsIf_load_row (by rfl) 27 (.tmp 3) rfl gH rfl 27 _ (0, 0) _ (fun _ hS => ((hS.choose_spec.2).bk_ 2 rfl)) Tryz.underlying27 rfl cf_sz) hHeld ?_
    try simp only [Act.put, List.setIfInBounds_toArray, List.set_cons_zero, List.set_cons_succ]
    refine wpAnyH_take (i := 5) (oi := ⟨some 14, _, _, _, _, _⟩) (v := .slice B m d) rfl (by kernel_rfl) (by kernel_rfl) (by kernel_rfl) (fun _ _ _ h => h) (Or.inl ⟨by rfl, ?_⟩) hHeld ?_
    · intro ww hS
      try dsimp only at hS
      go_simp
      try with_reducible rfl
      try omega
    try simp only [Act.put, List.setIfInBounds_toArray, List.set_cons_zero, List.set_cons_succ]
    refine wpAnyH_take (i := 6) (oi := ⟨some 15, _, _, _, _, _⟩) (v := .agg (opv h s)) rfl (by kernel_rfl) (by kernel_rfl) (by kernel_rfl) (fun _ _ _ h => h) (yieldsIf_load_row (by rfl) 43 (.tmp 5) rfl gO rfl 43 _ (0, 0) _ (fun _ hS => ((hS.choose_spec.2).bk_ 1 rfl)) Tryz.underlying43 rfl op_sz) hHeld ?_
    try simp only [Act.put, List.setIfInBounds_toArray, List.set_cons_zero, List.set_cons_succ]
    refine wpAnyH_ready (rs := [3]) (by kernel_rfl) (by simp) ?_
    refine AllReadyH.cons (o := ⟨some 12, _, _, _, _, _⟩) rfl (fun K0 hK => ?_) AllReadyH.nil
    go_simp
    refine ((TO _).out).mono ?_
    rintro e w' ⟨rfl, rfl⟩
    refine hK.out _ _ ⟨_, rfl, L⟩ (fun hHeld' => ?_)
    clear hHeld hK K0
    have hHeld := hHeld'
    clear hHeld'
    try simp only [Act.put, List.setIfInBounds_toArray, List.set_cons_zero, List.set_cons_succ]
    refine wpAnyH_ready (rs := [7]) (by kernel_rfl) (by simp) ?_
    refine AllReadyH.cons (o := ⟨some 16, _, _, _, _, _⟩) rfl (fun K0 hK => ?_) AllReadyH.nil
    have KS := L.K.size
    have L0 := L
    go_simp
    refine ((TK _ L.K (hU.below L.K) (hL.below L.K)).out).mono ?_
    rintro e w3 ⟨h3, B2, d2, rfl, U, L', hA, K'⟩
    have Lb := L.lts
    replace L := L.over K'
    replace L := L.us_av (fun i b e => hA b.1 (Lb i b e) (hU.apart0 hm0 L0 i b e)) U
    replace L := L.lists Lb L'
    clear Lb
    try dsimp only [lF, List.cons_append, List.nil_append] at L
    clear L' U L0
    refine hK.out _ _ ⟨_, rfl, (L.less 5)⟩ (fun hHeld' => ?_)
    clear hHeld hK K0
    have hHeld := hHeld'
    clear hHeld'
    clear K'
    try simp only [Act.put, List.setIfInBounds_toArray, List.set_cons_zero, List.set_cons_succ]
    refine wpAnyH_take (i := 8) (oi := ⟨some 17, _, _, _, _, _⟩) (v := .slice B2 m d2) rfl (by kernel_rfl) (by kernel_rfl) (by kernel_rfl) (fun _ _ _ h => h) (Or.inl ⟨by rfl, ?_⟩) hHeld ?_
    · intro ww hS
      try dsimp only at hS
      go_simp
      try with_reducible rfl
      try omega
    try simp only [Act.put, List.setIfInBounds_toArray, List.set_cons_zero, List.set_cons_succ]
    refine wpAnyH_take (i := 9) (oi := ⟨some 18, _, _, _, _, _⟩) (v := .agg (opv h3 s2)) rfl (by kernel_rfl) (by kernel_rfl) (by kernel_rfl) (fun _ _ _ h => h) (Or.inl ⟨by rfl, ?_⟩) hHeld ?_
    · intro ww hS
      try dsimp only at hS
      go_simp
      try with_reducible rfl
      try omega
    try simp only [Act.put, List.setIfInBounds_toArray, List.set_cons_zero, List.set_cons_succ]
    refine wpAnyH_take (i := 10) (oi := ⟨some 19, _, _, _, _, _⟩) (v := .bool b2) rfl (by kernel_rfl) (by kernel_rfl) (by kernel_rfl) (fun _ _ _ h => h) (Or.inl ⟨by rfl, ?_⟩) hHeld ?_
    · intro ww hS
      try dsimp only at hS
      go_simp
      try with_reducible rfl
      try omega
    try simp only [Act.put, List.setIfInBounds_toArray, List.set_cons_zero, List.set_cons_succ]
    refine wpAnyH_take (i := 11) (oi := ⟨some 6, _, _, _, _, _⟩) (v := .slice B2 m d2) rfl (by kernel_rfl) (by kernel_rfl) (by kernel_rfl) (fun _ _ _ h => h) (Or.inl ⟨by rfl, ?_⟩) hHeld ?_
    · intro ww hS
      try dsimp only at hS
      go_simp
      try with_reducible rfl
      try omega
    try simp only [Act.put, List.setIfInBounds_toArray, List.set_cons_zero, List.set_cons_succ]
    refine wpAnyH_ready (rs := [12]) (by kernel_rfl) (by simp) ?_
    refine AllReadyH.cons (o := ⟨none, _, _, _, _, _⟩) rfl (fun K0 hK => ?_) AllReadyH.nil
    rw [if_pos (by rfl)]
    refine wp_store_row 43 (.tmp 7) (.tmp 18) rfl gR _ rfl rfl _ _ (L.bk_ 0 rfl) op_sz rfl (opv_one _ _) ?_
    replace L := L.row 0 rfl (opv h3 s2)
    try dsimp only [nput] at L
    refine hK.out _ _ ⟨_, rfl, (L.less 5)⟩ (fun hHeld' => ?_)
    clear hHeld hK K0
    have hHeld := hHeld'
    clear hHeld'
    generalize w3.setRow gR (opv h3 s2) = v4 at hHeld L ⊢
    try simp only [Act.put]
    refine wpAnyH_take (i := 13) (oi := ⟨some 8, _, _, _, _, _⟩) (v := .bool b2) rfl (by kernel_rfl) (by kernel_rfl) (by kernel_rfl) (fun _ _ _ h => h) (Or.inl ⟨by rfl, ?_⟩) hHeld ?_
    · intro ww hS
      try dsimp only at hS
      go_simp
      try with_reducible rfl
      try omega
    try simp only [Act.put, List.setIfInBounds_toArray, List.set_cons_zero, List.set_cons_succ]
    refine wpAnyH_done (by kernel_rfl) ?_ _
    clear hHeld
    go_wp2
    refine eTCT Tryz.results16 (.slice B2 m d2) (.bool b2) (L.bk_ 0 rfl) ?_
    exact ⟨_, _, _, rfl, L.us_ 4 rfl, (L.lists_at 0 rfl).lower_ KS, fun k hk => hA k (Nat.lt_of_lt_of_le hk KS), L.K⟩
theorem pstep (ha : a < 4294967296) (hM : Much a p M) (h1 : 1 ≤ ns) (h2 : ns ≤ 64) (htr : tr ≤ 60000) (hN : N ≤ 60000) (hZ : IS .i64 lz w A n c zs) (hn : n ≤ 60000) (hr : risB M 0 zs = true) (hq : rq.length ≤ 60000) (hI : PI a M ns tr zs k X rq N item s l) (hY : YI M zs ys) (hU : US w B m d ys) (hL : Lists lo w h l) (hp : s.phase ≠ 0) :
    Calls Tryz.prog 16 #[.agg #[.int .u32 (a : Int), .int .i64 p, .slice A n c, .int .i64 (ns : Int), .int .i64 wo, .int .i64 qu, .int .i64 (tr : Int)], .slice B m d, .agg (opv h s)] w (RetPS a M ns tr zs k X rq N item s l m ys B w) := by
  have hfit := hM.fits ha
  have hmo := hM.most
  have hM0 : 0 < M := hM.pos
  obtain ⟨_, _, hes, _⟩ := hI.few hmo hfit hq
  have hml : lv M ≤ m := by have := hU.len; have := hY.len; omega
  have hm0 : 0 < m := by have h9 : 0 < lv M := (by unfold lv; omega); omega
  have mono : ∀ {s2 : Sc} {l2 : Ls} {y2 : List Nat} {b2 : Bool} {e w'}, PO a M ns tr zs k X rq N item s l ys s2 l2 y2 b2 → RetX s2 l2 m y2 b2 B w e w' → RetPS a M ns tr zs k X rq N item s l m ys B w e w' := by
    rintro s2 l2 y2 b2 e w' hO ⟨h', B', d', rfl, U, L, hA, K⟩
    exact ⟨_, _, _, _, _, _, _, rfl, U, L, hA, K, hO⟩
  cases hI with
  | gr sn hk hG hu h0 =>
    have TO : ∀ w, Hid (Calls Tryz.prog 48 #[.int .i64 s.kind] w fun e w' => e = .returned (.iface 106 (.agg #[])) ∧ w = w') := fun w => Lib.hid (by rw [hG.kd]; exact pof_1 w)
    refine (pstp_to (T := 106) (f := 111) (by decide) rfl (fun _ => by kernel_rfl) hm0 hU hL TO (fun w K U L => Lib.hid (pm_g hm0 U L fun w K U L => Lib.hid (gstep_any (tr := (tr : Int)) ha hM h1 h2 hN (by omega) hG hY U L)))).mono fun e w' R => mono (po_gr hmo hM0 h1 hfit hk hG hu h0 hY) R
  | ex o hk hk2 hE hX h0 hu =>
    have TO : ∀ w, Hid (Calls Tryz.prog 48 #[.int .i64 s.kind] w fun e w' => e = .returned (.iface 107 (.agg #[])) ∧ w = w') := fun w => Lib.hid (by rw [hk2]; rcases hk with rfl | rfl; exact pof_2 w; exact pof_5 w)
    refine (pstp_to (T := 107) (f := 171) (by decide) rfl (fun _ => by kernel_rfl) hm0 hU hL TO (fun w K U L => Lib.hid (pm_x hm0 U L fun w K U L => Lib.hid (xs_any (tr := (tr : Int)) ha hM hE hY U L (by omega))))).mono fun e w' R => mono (po_ex hmo hfit hk hk2 hE hX h0 hu hY) R
  | ba nm es i hk hk2 hB hnm hi =>
    have TO : ∀ w, Hid (Calls Tryz.prog 48 #[.int .i64 s.kind] w fun e w' => e = .returned (.iface 108 (.agg #[])) ∧ w = w') := fun w => Lib.hid (by rw [hk2]; rcases hk with rfl | rfl; exact pof_3 w; exact pof_4 w)
    refine (pstp_to (T := 108) (f := 181) (by decide) rfl (fun _ => by kernel_rfl) hm0 hU hL TO (fun w K U L => Lib.hid (pm_b hm0 U L fun w K U L => Lib.hid (bs_any (tr := (tr : Int)) ha hM hB hY U L (by omega) (by have : es.length ≤ 60000 := hes; omega))))).mono fun e w' R => mono (po_ba hmo hk hk2 hB hnm hi hY) R
  | sn sn ds hk hN6 =>
    have TO : ∀ w, Hid (Calls Tryz.prog 48 #[.int .i64 s.kind] w fun e w' => e = .returned (.iface 109 (.agg #[])) ∧ w = w') := fun w => Lib.hid (by rw [hN6.kd]; exact pof_6 w)
    refine (pstp_to (T := 109) (f := 197) (by decide) rfl (fun _ => by kernel_rfl) hm0 hU hL TO (fun w K U L => Lib.hid (pm_s U L fun w K2 U L => Lib.hid (snstep_any ha hM hN6 L hq htr U hml ((hZ.below K).below K2) (by omega) hr hp)))).mono fun e w' R => mono (po_sn hM0 hk hN6 hY) R
set_option maxHeartbeats 4000000 in
theorem bstay {sh tr : Int} (hU : US w B m d ys) (hL : Lists lo w h l) (h0 : h.n0 ≤ 60000) (h1 : h.n1 ≤ 65536) (h2 : h.n2 ≤ 60000) (h3 : h.n3 ≤ 65000) :
    Calls Tryz.prog 186 #[.agg #[.int .u32 (a : Int), .int .i64 p, .slice A n c, .int .i64 sh, .int .i64 wo, .int .i64 qu, .int .i64 tr], .slice B m d, .agg (opv h s)] w (RetX s l m ys false B w) := by
  have TOwn := fun w (L : Lists lo w h l) => Lib.hid (ownx (s := s) L (by omega) (by omega) (by omega) (by omega))
  go_enter Tryz.func186, Tryz.ntmps186
  go_upto_region 1 with (fail)
  have L := Loc.start w
  generalize hal : World.alloc _ _ = w1
  replace L := L.a3 hal
  clear hal
  replace L := L.is0 (opv hd0 sc0) rfl
  generalize w.heap.size + 1 + 1 = gR at L ⊢
  generalize w.heap.size + 1 = gO at L ⊢
  generalize w.heap.size = gH at L ⊢
  go_wp2_with (refine lO 5 (L.bk_ 1 rfl) ?_)
  have KS := L.K.size
  refine ((TOwn _ (hL.below L.K)).out).mono ?_
  rintro e w2 ⟨h3, rfl, L', K'⟩
  have Lb := L.lts
  replace L := L.over K'
  replace L := L.lists Lb L'
  clear Lb
  try dsimp only [lF, List.cons_append, List.nil_append] at L
  clear L'
  go_wp2_with (refine sO 7 11 (L.bk_ 0 rfl) rfl rfl ?_)
  generalize hal : World.setRow _ _ _ = w3
  replace L := L.rr0 hal
  clear hal
  refine eTCT Tryz.results186 (.slice B m d) (.bool false) (L.bk_ 0 rfl) ?_
  exact ⟨_, _, _, rfl, hU.below L.K, (L.lists_at (l := l) 0 rfl).lower_ KS, fun k _ h => h, L.K⟩
theorem pdon (hm0 : 0 < m) (hU : US w B m d ys) (hL : Lists lo w h l) (h0 : h.n0 ≤ 60000) (h1 : h.n1 ≤ 65536) (h2 : h.n2 ≤ 60000) (h3 : h.n3 ≤ 65000) (hp : s.phase = 0) (hk : s.kind = 3) :
    Calls Tryz.prog 16 #[.agg #[.int .u32 (a : Int), .int .i64 p, .slice A n c, .int .i64 (ns : Int), .int .i64 wo, .int .i64 qu, .int .i64 (tr : Int)], .slice B m d, .agg (opv h s)] w (RetX s l m ys false B w) := by
  exact pstp_to (T := 108) (f := 181) (by decide) rfl (fun _ => by kernel_rfl) hm0 hU hL (fun w => Lib.hid (by rw [hk]; exact pof_3 w)) (fun w K U L => Lib.hid (pm_b hm0 U L fun w K U L => Lib.hid (bs_to (f := 186) (by decide) hm0 U L (fun w => Lib.hid (by rw [hp]; exact bph0 w)) (fun w U L => Lib.hid (bstay U L h0 h1 h2 h3)))))
/-- How an operation begins, its request aside: nothing is answered or seen. -/
def RetBg (s : Sc) (w : World) (e : Ending) (w' : World) : Prop := ∃ h', e = .returned (.agg (opv h' s)) ∧ IS .u32 0 w' h'.A1 h'.n1 h'.c1 [] ∧ IS .i64 0 w' h'.A2 h'.n2 h'.c2 [] ∧ IS .u64 0 w' h'.A3 h'.n3 h'.c3 [] ∧ Below w.heap.size w w'
/-- With its request. -/
def asked (s : Sc) (k : Int) (X : Nat) : Sc := ⟨k, (X : Int), s.err, s.aad, s.used, s.phase, s.shard, s.sought, s.leaf, s.bit, s.word, s.full, s.at_, s.tries, s.item, s.stamp⟩
theorem Loc.is_nil {w0 w : World} {bs : List Bl} {fs : List Fct} {k : IntKind} {lo : Nat} {A : Option Addr} {n c : Nat} (L : Loc w0 w bs fs) (hI : IS k lo w A n c []) : Loc w0 w bs (iF k lo A n c [] :: fs) :=
  L.add _ hI (iF_ok _ _ _ _ _ _) fun i b e hf => by have := hI.len; have := hf.1; simp at *; omega
/-- An operation that ends as it begins, with that error. -/
def endS (E : Int) : Sc := ⟨0, 0, E, 0, false, 0, 0, 0, 0, 0, 0, false, 0, 0, 0, 0⟩
set_option maxHeartbeats 4000000 in
theorem pb_g  :
    Calls Tryz.prog 109 #[.agg #[], .agg #[.int .u32 (a : Int), .int .i64 p, .slice A n c, .int .i64 (ns : Int), .int .i64 wo, .int .i64 qu, .int .i64 (tr : Int)], .int .i64 hd, .agg #[.int .i64 k, .int .u32 (X : Int), .slice A0 n0 c0]] w (RetBg (gS0 hd) w) := by
  go_enter Tryz.func109, Tryz.ntmps109
  go_upto_region 1 with (fail)
  have L := Loc.start w
  generalize hal : World.alloc _ _ = w1
  replace L := L.a4 hal
  clear hal
  generalize w.heap.size + 1 + 1 + 1 = gR at L ⊢
  generalize w.heap.size + 1 + 1 = gQ at L ⊢
  generalize w.heap.size + 1 = gH at L ⊢
  generalize w.heap.size = gE at L ⊢
  obtain ⟨Q0, Q1, Q2, Qz⟩ := c3 (L.bk_ 1 rfl)
  go_wp2_with (first | refine lC 5 (L.bk_ 2 rfl) ?_ | fail)
  refine (gbegin_any hd).mono ?_
  rintro _ w3 ⟨rfl, K'⟩
  replace L := L.over K'
  go_wp2_with (refine sO 8 10 (L.bk_ 0 rfl) rfl rfl ?_)
  generalize hal : World.setRow _ _ _ = w4
  replace L := L.rr0 hal
  clear hal
  refine eC Tryz.results109 (L.bk_ 0 rfl) ?_
  exact ⟨_, rfl, IS.none_ _ _ _, IS.none_ _ _ _, IS.none_ _ _ _, L.K⟩
set_option maxHeartbeats 4000000 in
theorem pb_x {s2 : Sc} (hI : IS .u32 lo2 w A0 n0 c0 rq) (TB : ∀ w2, Below w.heap.size w w2 → IS .u32 lo2 w2 A0 n0 c0 rq → Hid (Calls Tryz.prog 172 #[.agg #[.int .u32 (a : Int), .int .i64 p, .slice A n c, .int .i64 (ns : Int), .int .i64 wo, .int .i64 qu, .int .i64 (tr : Int)], .agg #[.int .i64 k, .int .u32 (X : Int), .slice A0 n0 c0]] w2 (RetXB s2 rq ⟨A0, n0, c0, none, 0, 0, none, 0, 0, none, 0, 0⟩ w2))) :
    Calls Tryz.prog 169 #[.agg #[], .agg #[.int .u32 (a : Int), .int .i64 p, .slice A n c, .int .i64 (ns : Int), .int .i64 wo, .int .i64 qu, .int .i64 (tr : Int)], .int .i64 hd, .agg #[.int .i64 k, .int .u32 (X : Int), .slice A0 n0 c0]] w (RetBg s2 w) := by
  go_enter Tryz.func169, Tryz.ntmps169
  go_upto_region 1 with (fail)
  have L := Loc.start w
  generalize hal : World.alloc _ _ = w1
  replace L := L.a4 hal
  clear hal
  generalize w.heap.size + 1 + 1 + 1 = gR at L ⊢
  generalize w.heap.size + 1 + 1 = gQ at L ⊢
  generalize w.heap.size + 1 = gH at L ⊢
  generalize w.heap.size = gE at L ⊢
  obtain ⟨Q0, Q1, Q2, Qz⟩ := c3 (L.bk_ 1 rfl)
  go_wp2_with (refine lC 5 (L.bk_ 2 rfl) ?_)
  refine (TB _ L.K (hI.below L.K)).out.mono ?_
  rintro _ w3 ⟨h3, rfl, L', hS, K'⟩
  replace L := L.over K'
  replace L := L.is_nil (L'.i3.lower (Nat.zero_le _))
  replace L := L.is_nil (L'.i2.lower (Nat.zero_le _))
  replace L := L.is_nil (L'.i1.lower (Nat.zero_le _))
  go_wp2_with (refine sO 8 11 (L.bk_ 0 rfl) rfl rfl ?_)
  generalize hal : World.setRow _ _ _ = w4
  replace L := L.rr0 hal
  clear hal
  refine eC Tryz.results169 (L.bk_ 0 rfl) ?_
  exact ⟨_, rfl, L.is_ 0 rfl, L.is_ 1 rfl, L.is_ 2 rfl, L.K⟩
set_option maxHeartbeats 4000000 in
theorem pb_b {s2 : Sc} (hI : IS .u32 lo2 w A0 n0 c0 rq) (TB : ∀ w2, Below w.heap.size w w2 → IS .u32 lo2 w2 A0 n0 c0 rq → Hid (Calls Tryz.prog 182 #[.agg #[.int .u32 (a : Int), .int .i64 p, .slice A n c, .int .i64 (ns : Int), .int .i64 wo, .int .i64 qu, .int .i64 (tr : Int)], .agg #[.int .i64 k, .int .u32 (X : Int), .slice A0 n0 c0]] w2 (RetBB s2 ⟨rq, [], [], []⟩ w2))) :
    Calls Tryz.prog 179 #[.agg #[], .agg #[.int .u32 (a : Int), .int .i64 p, .slice A n c, .int .i64 (ns : Int), .int .i64 wo, .int .i64 qu, .int .i64 (tr : Int)], .int .i64 hd, .agg #[.int .i64 k, .int .u32 (X : Int), .slice A0 n0 c0]] w (RetBg s2 w) := by
  go_enter Tryz.func179, Tryz.ntmps179
  go_upto_region 1 with (fail)
  have L := Loc.start w
  generalize hal : World.alloc _ _ = w1
  replace L := L.a4 hal
  clear hal
  generalize w.heap.size + 1 + 1 + 1 = gR at L ⊢
  generalize w.heap.size + 1 + 1 = gQ at L ⊢
  generalize w.heap.size + 1 = gH at L ⊢
  generalize w.heap.size = gE at L ⊢
  obtain ⟨Q0, Q1, Q2, Qz⟩ := c3 (L.bk_ 1 rfl)
  go_wp2_with (refine lC 5 (L.bk_ 2 rfl) ?_)
  refine (TB _ L.K (hI.below L.K)).out.mono ?_
  rintro _ w3 ⟨h3, rfl, L', K'⟩
  replace L := L.over K'
  replace L := L.is_nil (L'.i3.lower (Nat.zero_le _))
  replace L := L.is_nil (L'.i2.lower (Nat.zero_le _))
  replace L := L.is_nil (L'.i1.lower (Nat.zero_le _))
  go_wp2_with (refine sO 8 11 (L.bk_ 0 rfl) rfl rfl ?_)
  generalize hal : World.setRow _ _ _ = w4
  replace L := L.rr0 hal
  clear hal
  refine eC Tryz.results179 (L.bk_ 0 rfl) ?_
  exact ⟨_, rfl, L.is_ 0 rfl, L.is_ 1 rfl, L.is_ 2 rfl, L.K⟩
set_option maxHeartbeats 4000000 in
theorem pb_s  :
    Calls Tryz.prog 195 #[.agg #[], .agg #[.int .u32 (a : Int), .int .i64 p, .slice A n c, .int .i64 (ns : Int), .int .i64 wo, .int .i64 qu, .int .i64 (tr : Int)], .int .i64 hd, .agg #[.int .i64 k, .int .u32 (X : Int), .slice A0 n0 c0]] w (RetBg nS0 w) := by
  go_enter Tryz.func195, Tryz.ntmps195
  go_upto_region 1 with (fail)
  have L := Loc.start w
  generalize hal : World.alloc _ _ = w1
  replace L := L.a4 hal
  clear hal
  generalize w.heap.size + 1 + 1 + 1 = gR at L ⊢
  generalize w.heap.size + 1 + 1 = gQ at L ⊢
  generalize w.heap.size + 1 = gH at L ⊢
  generalize w.heap.size = gE at L ⊢
  obtain ⟨Q0, Q1, Q2, Qz⟩ := c3 (L.bk_ 1 rfl)
  go_wp2_with (first | refine lC 5 (L.bk_ 2 rfl) ?_ | fail)
  refine (snbegin_any _).mono ?_
  rintro _ w3 ⟨h3, rfl, L', K'⟩
  replace L := L.over K'
  replace L := L.is_nil (L'.i3.lower (Nat.zero_le _))
  replace L := L.is_nil (L'.i2.lower (Nat.zero_le _))
  replace L := L.is_nil (L'.i1.lower (Nat.zero_le _))
  go_wp2_with (refine sO 8 9 (L.bk_ 0 rfl) rfl rfl ?_)
  generalize hal : World.setRow _ _ _ = w4
  replace L := L.rr0 hal
  clear hal
  refine eC Tryz.results195 (L.bk_ 0 rfl) ?_
  exact ⟨_, rfl, L.is_ 0 rfl, L.is_ 1 rfl, L.is_ 2 rfl, L.K⟩
set_option maxHeartbeats 4000000 in
theorem pb_e (E : Int) :
    Calls Tryz.prog 106 #[.agg #[.int .i64 E], .agg #[.int .u32 (a : Int), .int .i64 p, .slice A n c, .int .i64 (ns : Int), .int .i64 wo, .int .i64 qu, .int .i64 (tr : Int)], .int .i64 hd, .agg #[.int .i64 k, .int .u32 (X : Int), .slice A0 n0 c0]] w (RetBg (endS E) w) := by
  go_enter Tryz.func106, Tryz.ntmps106
  go_upto_region 1 with (fail)
  have L := Loc.start w
  generalize hal : World.alloc _ _ = w1
  replace L := L.a4 hal
  clear hal
  generalize w.heap.size + 1 + 1 + 1 = gR at L ⊢
  generalize w.heap.size + 1 + 1 = gQ at L ⊢
  generalize w.heap.size + 1 = gH at L ⊢
  generalize w.heap.size = gE at L ⊢
  have E0 := L.at_ 3 0 rfl (v := .int .i64 E) rfl
  have Ez := L.lt 3 rfl
  go_wp2_with (refine wpList_store_row rfl 43 (.tmp 8) (.tmp 12) rfl gR (opv hd0 (endS E)) rfl rfl _ _ (L.bk_ 0 rfl) op_sz rfl (opv_one _ _) ?_)
  generalize hal : World.setRow _ _ _ = w4
  replace L := L.rr0 hal
  clear hal
  refine eC Tryz.results106 (L.bk_ 0 rfl) ?_
  exact ⟨_, rfl, IS.none_ _ _ _, IS.none_ _ _ _, IS.none_ _ _ _, L.K⟩
set_option maxHeartbeats 4000000 in
theorem pbeg_to {f T : Nat} {rv : Value} {s2 : Sc} {b : Bool} (hff : f = 109 ∨ f = 169 ∨ f = 179 ∨ f = 195 ∨ f = 106) (hm : ∀ w, (method 308 T rv "lodger/pool.begins").run Tryz.prog w = .ok (f, rv) w) (hI : IS .u32 lo2 w A0 n0 c0 rq) (hn0 : n0 ≤ 60000) (hb : (s2.phase == 0) = b)
    (TA : ∀ w2, Below w.heap.size w w2 → IS .u32 lo2 w2 A0 n0 c0 rq → Hid (Calls Tryz.prog 38 #[.agg #[.int .u32 (a : Int), .int .i64 p, .slice A n c, .int .i64 (ns : Int), .int .i64 wo, .int .i64 qu, .int .i64 (tr : Int)], .agg #[.int .i64 k, .int .u32 (X : Int), .slice A0 n0 c0]] w2 fun e w' => e = .returned (.iface T rv) ∧ Below w2.heap.size w2 w'))
    (TB : ∀ w2, Below w.heap.size w w2 → IS .u32 lo2 w2 A0 n0 c0 rq → Hid (Calls Tryz.prog f #[rv, .agg #[.int .u32 (a : Int), .int .i64 p, .slice A n c, .int .i64 (ns : Int), .int .i64 wo, .int .i64 qu, .int .i64 (tr : Int)], .int .i64 hd, .agg #[.int .i64 k, .int .u32 (X : Int), .slice A0 n0 c0]] w2 (RetBg s2 w2))) :
    Calls Tryz.prog 12 #[.agg #[.int .u32 (a : Int), .int .i64 p, .slice A n c, .int .i64 (ns : Int), .int .i64 wo, .int .i64 qu, .int .i64 (tr : Int)], .int .i64 hd, .agg #[.int .i64 k, .int .u32 (X : Int), .slice A0 n0 c0]] w fun e w' => ∃ h', e = .returned (.tuple #[.agg (opv h' (asked s2 k X)), .bool b]) ∧ Lists w.heap.size w' h' ⟨rq, [], [], []⟩ ∧ Below w.heap.size w w' := by
  go_enter Tryz.func12, Tryz.ntmps12
  go_upto_region 1 with (fail)
  have L := Loc.start w
  replace L := (((L).alloc #[.int .u32 (a : Int), .int .i64 p, .slice A n c, .int .i64 (ns : Int), .int .i64 wo, .int .i64 qu, .int .i64 (tr : Int)] 27).alloc #[.int .i64 k, .int .u32 (X : Int), .slice A0 n0 c0] 30).alloc #[.int .i64 0, .int .u32 0, .slice none 0 0, .int .i64 0, .int .u32 0, .bool false, .slice none 0 0, .slice none 0 0, .int .i64 0, .int .i64 0, .int .i64 0, .int .i64 0, .int .i64 0, .int .u64 0, .bool false, .slice none 0 0, .int .i64 0, .int .i64 0, .int .i64 0, .int .i64 0] 43
  try simp only [World.size_alloc] at L
  replace L := L.is 0 (opv hd0 sc0) rfl
  try dsimp only [nput] at L
  generalize (((w).alloc (.cells #[.int .u32 (a : Int), .int .i64 p, .slice A n c, .int .i64 (ns : Int), .int .i64 wo, .int .i64 qu, .int .i64 (tr : Int)] 27)).alloc (.cells #[.int .i64 k, .int .u32 (X : Int), .slice A0 n0 c0] 30)).alloc (.cells #[.int .i64 0, .int .u32 0, .slice none 0 0, .int .i64 0, .int .u32 0, .bool false, .slice none 0 0, .slice none 0 0, .int .i64 0, .int .i64 0, .int .i64 0, .int .i64 0, .int .i64 0, .int .u64 0, .bool false, .slice none 0 0, .int .i64 0, .int .i64 0, .int .i64 0, .int .i64 0] 43) = w1 at L ⊢
  generalize w.heap.size + 1 + 1 = gR at L ⊢
  generalize w.heap.size + 1 = gQ at L ⊢
  generalize w.heap.size = gH at L ⊢
  rcases hff with rfl | rfl | rfl | rfl | rfl
  all_goals
    replace L := L.drew
    refine wp_region_held_drew (S := fun w' => Loc w w' [(gR, 43, opv hd0 sc0), (gQ, 30, #[.int .i64 k, .int .u32 (X : Int), .slice A0 n0 c0]), (gH, 27, #[.int .u32 (a : Int), .int .i64 p, .slice A n c, .int .i64 (ns : Int), .int .i64 wo, .int .i64 qu, .int .i64 (tr : Int)])] []) (by kernel_rfl) L (fun hHeld => ?_)
    generalize w1.drew = v2 at hHeld L ⊢
    refine wpAnyH_take (i := 0) (oi := ⟨some 9, _, _, _, _, _⟩) (v := .agg (#[.int .u32 (a : Int), .int .i64 p, .slice A n c, .int .i64 (ns : Int), .int .i64 wo, .int .i64 qu, .int .i64 (tr : Int)])) rfl (by kernel_rfl) (by kernel_rfl) (by kernel_rfl) (fun _ _ _ h => h) (yieldsIf_load_row (by rfl) 27 (.tmp 3) rfl gH rfl 27 _ (0, 0) _ (fun _ hS => ((hS).bk_ 2 rfl)) Tryz.underlying27 rfl cf_sz) hHeld ?_
    try simp only [Act.put, List.setIfInBounds_toArray, List.set_cons_zero, List.set_cons_succ]
    refine wpAnyH_take (i := 1) (oi := ⟨some 10, _, _, _, _, _⟩) (v := .agg (#[.int .i64 k, .int .u32 (X : Int), .slice A0 n0 c0])) rfl (by kernel_rfl) (by kernel_rfl) (by kernel_rfl) (fun _ _ _ h => h) (yieldsIf_load_row (by rfl) 30 (.tmp 5) rfl gQ rfl 30 _ (0, 0) _ (fun _ hS => ((hS).bk_ 1 rfl)) Tryz.underlying30 rfl ak_sz) hHeld ?_
    try simp only [Act.put, List.setIfInBounds_toArray, List.set_cons_zero, List.set_cons_succ]
    refine wpAnyH_take (i := 3) (oi := ⟨some 12, _, _, _, _, _⟩) (v := .agg (#[.int .u32 (a : Int), .int .i64 p, .slice A n c, .int .i64 (ns : Int), .int .i64 wo, .int .i64 qu, .int .i64 (tr : Int)])) rfl (by kernel_rfl) (by kernel_rfl) (by kernel_rfl) (fun _ _ _ h => h) (yieldsIf_load_row (by rfl) 27 (.tmp 3) rfl gH rfl 27 _ (0, 0) _ (fun _ hS => ((hS).bk_ 2 rfl)) Tryz.underlying27 rfl cf_sz) hHeld ?_
    try simp only [Act.put, List.setIfInBounds_toArray, List.set_cons_zero, List.set_cons_succ]
    refine wpAnyH_take (i := 4) (oi := ⟨some 13, _, _, _, _, _⟩) (v := .int .i64 hd) rfl (by kernel_rfl) (by kernel_rfl) (by kernel_rfl) (fun _ _ _ h => h) (Or.inl ⟨by rfl, ?_⟩) hHeld ?_
    · intro ww hS
      try dsimp only at hS
      go_simp
      try with_reducible rfl
      try omega
    try simp only [Act.put, List.setIfInBounds_toArray, List.set_cons_zero, List.set_cons_succ]
    refine wpAnyH_take (i := 5) (oi := ⟨some 14, _, _, _, _, _⟩) (v := .agg (#[.int .i64 k, .int .u32 (X : Int), .slice A0 n0 c0])) rfl (by kernel_rfl) (by kernel_rfl) (by kernel_rfl) (fun _ _ _ h => h) (yieldsIf_load_row (by rfl) 30 (.tmp 5) rfl gQ rfl 30 _ (0, 0) _ (fun _ hS => ((hS).bk_ 1 rfl)) Tryz.underlying30 rfl ak_sz) hHeld ?_
    try simp only [Act.put, List.setIfInBounds_toArray, List.set_cons_zero, List.set_cons_succ]
    refine wpAnyH_ready (rs := [2, 7]) (by kernel_rfl) (by simp) ?_
    refine (AllReadyH.cons (o := ⟨some 11, _, _, _, _, _⟩) rfl (fun K0 hK => ?_) (AllReadyH.cons (o := ⟨some 8, _, _, _, _, _⟩) rfl (fun K0 hK => ?_) AllReadyH.nil))
    · go_simp
      refine ((TA _ L.K (hI.below L.K)).out).mono ?_
      rintro e w3 ⟨rfl, K'⟩
      replace L := L.over K'
      refine hK.out _ _ L (fun hHeld' => ?_)
      clear hHeld hK K0
      have hHeld := hHeld'
      clear hHeld'
      clear K'
      try simp only [Act.put, List.setIfInBounds_toArray, List.set_cons_zero, List.set_cons_succ]
      refine wpAnyH_ready (rs := [6, 7]) (by kernel_rfl) (by simp) ?_
      refine (AllReadyH.cons (o := ⟨some 15, _, _, _, _, _⟩) rfl (fun K0 hK => ?_) (AllReadyH.cons (o := ⟨some 8, _, _, _, _, _⟩) rfl (fun K0 hK => ?_) AllReadyH.nil))
      · go_simp
        refine ((TB _ L.K (hI.below L.K)).out).mono ?_
        rintro e w4 ⟨h2, rfl, I1, I2, I3, K'⟩
        have Lb := L.lts
        replace L := L.over K'
        replace L := L.is_nil I3
        replace L := L.is_nil I2
        replace L := L.is_nil I1
        clear Lb
        try dsimp only [lF, List.cons_append, List.nil_append] at L
        clear I1 I2 I3
        refine hK.out _ _ (L.less 3) (fun hHeld' => ?_)
        clear hHeld hK K0
        have hHeld := hHeld'
        clear hHeld'
        clear K'
        try simp only [Act.put, List.setIfInBounds_toArray, List.set_cons_zero, List.set_cons_succ]
        refine wpAnyH_ready (rs := [7]) (by kernel_rfl) (by simp) ?_
        refine AllReadyH.cons (o := ⟨some 8, _, _, _, _, _⟩) rfl (fun K0 hK => ?_) AllReadyH.nil
        go_simp
        refine hK.out _ _ ((L.other _).less 3) (fun hHeld' => ?_)
        clear hHeld hK K0
        have hHeld := hHeld'
        clear hHeld'
        replace L := L.alloc #[.int .i64 0, .int .u32 0, .slice none 0 0, .int .i64 0, .int .u32 0, .bool false, .slice none 0 0, .slice none 0 0, .int .i64 0, .int .i64 0, .int .i64 0, .int .i64 0, .int .i64 0, .int .u64 0, .bool false, .slice none 0 0, .int .i64 0, .int .i64 0, .int .i64 0, .int .i64 0] 43
        replace L := L.is 0 (opv hd0 sc0) rfl
        try dsimp only [nput] at L
        generalize w4.alloc (.cells #[.int .i64 0, .int .u32 0, .slice none 0 0, .int .i64 0, .int .u32 0, .bool false, .slice none 0 0, .slice none 0 0, .int .i64 0, .int .i64 0, .int .i64 0, .int .i64 0, .int .i64 0, .int .u64 0, .bool false, .slice none 0 0, .int .i64 0, .int .i64 0, .int .i64 0, .int .i64 0] 43) = v5 at hHeld L ⊢
        generalize w4.heap.size = gX at L ⊢
        try simp only [Act.put, List.setIfInBounds_toArray, List.set_cons_zero, List.set_cons_succ]
        refine wpAnyH_ready (rs := [8]) (by kernel_rfl) (by simp) ?_
        refine AllReadyH.cons (o := ⟨none, _, _, _, _, _⟩) rfl (fun K0 hK => ?_) AllReadyH.nil
        rw [if_pos (by rfl)]
        refine wp_store_row 43 (.tmp 8) (.tmp 15) rfl gX _ rfl rfl _ _ (L.bk_ 0 rfl) op_sz rfl (opv_one _ _) ?_
        replace L := L.row 0 rfl (opv h2 s2)
        try dsimp only [nput] at L
        refine hK.out _ _ ((L.less 3).del 0) (fun hHeld' => ?_)
        clear hHeld hK K0
        have hHeld := hHeld'
        clear hHeld'
        generalize v5.setRow gX (opv h2 s2) = v6 at hHeld L ⊢
        try simp only [Act.put]
        refine wpAnyH_done (by kernel_rfl) ?_ _
        clear hHeld
        have z1 : h2.n1 ≤ 60000 := (by have h := (L.is_ 0 rfl).len; simp only [List.length_nil] at h; omega)
        have z2 : h2.n2 ≤ 60000 := (by have h := (L.is_ 1 rfl).len; simp only [List.length_nil] at h; omega)
        have z3 : h2.n3 ≤ 60000 := (by have h := (L.is_ 2 rfl).len; simp only [List.length_nil] at h; omega)
        obtain ⟨Q0, Q1, Q2, Qz⟩ := c3 (L.bk_ 2 rfl)
        have X0 := L.at_ 0 0 rfl (v := .int .i64 s2.kind) rfl
        have X1 := L.at_ 0 1 rfl (v := .int .u32 s2.addr) rfl
        have X2 := L.at_ 0 2 rfl (v := .slice h2.A0 h2.n0 h2.c0) rfl
        have Xz := L.lt 0 rfl
        have X0f := L.fz 0 0 rfl
        have X1f := L.fz 0 1 rfl
        have X2f := L.fz 0 2 rfl
        have nXQ := L.ne_ 0 2 rfl rfl (by decide)
        go_upto_region 3 with fail
        clear X0 X1 X2 Xz X0f X1f X2f nXQ Q0 Q1 Q2 Qz
        replace L := ((L.set 0 0 rfl (.int .i64 k)).set 0 1 rfl (.int .u32 (X : Int))).set 0 2 rfl (.slice A0 n0 c0)
        dsimp only [nput] at L
        generalize World.setCell (World.setCell (World.setCell _ _ _) _ _) _ _ = w7 at L ⊢
        replace L := L.is 0 (opv ⟨A0, n0, c0, h2.A1, h2.n1, h2.c1, h2.A2, h2.n2, h2.c2, h2.A3, h2.n3, h2.c3⟩ (asked s2 k X)) rfl
        have TOwn := fun w (L : Lists 0 w ⟨A0, n0, c0, h2.A1, h2.n1, h2.c1, h2.A2, h2.n2, h2.c2, h2.A3, h2.n3, h2.c3⟩ ⟨rq, [], [], []⟩) => Lib.hid (ownx (s := asked s2 k X) L (by show n0 ≤ _; omega) (by show h2.n1 ≤ _; omega) (by show h2.n2 ≤ _; omega) (by show h2.n3 ≤ _; omega))
        replace L := L.drew
        refine wp_region_held_drew (S := fun w' => ∃ v_R : Array Value, v_R.size = 20 ∧ Loc w w' [(gX, 43, opv ⟨A0, n0, c0, h2.A1, h2.n1, h2.c1, h2.A2, h2.n2, h2.c2, h2.A3, h2.n3, h2.c3⟩ (asked s2 k X)), (gR, 43, v_R), (gQ, 30, #[.int .i64 k, .int .u32 (X : Int), .slice A0 n0 c0]), (gH, 27, #[.int .u32 (a : Int), .int .i64 p, .slice A n c, .int .i64 (ns : Int), .int .i64 wo, .int .i64 qu, .int .i64 (tr : Int)])] [iF .u32 0 h2.A1 h2.n1 h2.c1 [], iF .i64 0 h2.A2 h2.n2 h2.c2 [], iF .u64 0 h2.A3 h2.n3 h2.c3 []]) (by kernel_rfl) (⟨_, rfl, L⟩) (fun hHeld => ?_)
        generalize w7.drew = v8 at hHeld L ⊢
        refine wpAnyH_take (i := 0) (oi := ⟨some 18, _, _, _, _, _⟩) (v := .agg (opv ⟨A0, n0, c0, h2.A1, h2.n1, h2.c1, h2.A2, h2.n2, h2.c2, h2.A3, h2.n3, h2.c3⟩ (asked s2 k X))) rfl (by kernel_rfl) (by kernel_rfl) (by kernel_rfl) (fun _ _ _ h => h) (yieldsIf_load_row (by rfl) 43 (.tmp 8) rfl gX rfl 43 _ (0, 0) _ (fun _ hS => ((hS.choose_spec.2).bk_ 0 rfl)) Tryz.underlying43 rfl op_sz) hHeld ?_
        try simp only [Act.put, List.setIfInBounds_toArray, List.set_cons_zero, List.set_cons_succ]
        refine wpAnyH_take (i := 2) (oi := ⟨some 20, _, _, _, _, _⟩) (v := .pointer (some ⟨gX, 8, none⟩)) rfl (by kernel_rfl) (by kernel_rfl) (by kernel_rfl) (fun _ _ _ h => h) (Or.inl ⟨by rfl, ?_⟩) hHeld ?_
        · intro ww hS
          try dsimp only at hS
          go_simp
          try with_reducible rfl
          try omega
        try simp only [Act.put, List.setIfInBounds_toArray, List.set_cons_zero, List.set_cons_succ]
        refine wpAnyH_take (i := 3) (oi := ⟨some 21, _, _, _, _, _⟩) (v := .int .i64 s2.phase) rfl (by kernel_rfl) (by kernel_rfl) (by kernel_rfl) (fun _ _ _ h => h) (Or.inl ⟨by rfl, ?_⟩) hHeld ?_
        · intro ww hS
          try dsimp only at hS
          have X_8 := (hS.choose_spec.2).at_ 0 8 rfl (v := .int .i64 s2.phase) rfl
          have X_z := (hS.choose_spec.2).lt 0 rfl
          go_simp
          try with_reducible rfl
          try omega
        try simp only [Act.put, List.setIfInBounds_toArray, List.set_cons_zero, List.set_cons_succ]
        refine wpAnyH_take (i := 4) (oi := ⟨some 22, _, _, _, _, _⟩) (v := .bool b) rfl (by kernel_rfl) (by kernel_rfl) (by kernel_rfl) (fun _ _ _ h => h) (Or.inl ⟨by rfl, ?_⟩) hHeld ?_
        · intro ww hS
          try dsimp only at hS
          have hb2 := hb
          go_simp
          try with_reducible rfl
          try omega
        try simp only [Act.put, List.setIfInBounds_toArray, List.set_cons_zero, List.set_cons_succ]
        refine wpAnyH_ready (rs := [1]) (by kernel_rfl) (by simp) ?_
        refine AllReadyH.cons (o := ⟨some 19, _, _, _, _, _⟩) rfl (fun K0 hK => ?_) AllReadyH.nil
        have KS := L.K.size
        go_simp
        refine ((TOwn _ ⟨(hI.below L.K).lower (Nat.zero_le _), L.is_ 0 rfl, L.is_ 1 rfl, L.is_ 2 rfl⟩).out).mono ?_
        rintro e w9 ⟨h3, rfl, L', K'⟩
        have Lb := L.lts
        replace L := L.over K'
        replace L := L.lists Lb L'
        clear Lb
        try dsimp only [lF, List.cons_append, List.nil_append] at L
        clear L'
        refine hK.out _ _ ⟨_, rfl, (L.less 4)⟩ (fun hHeld' => ?_)
        clear hHeld hK K0
        have hHeld := hHeld'
        clear hHeld'
        clear K'
        try simp only [Act.put, List.setIfInBounds_toArray, List.set_cons_zero, List.set_cons_succ]
        refine wpAnyH_ready (rs := [5]) (by kernel_rfl) (by simp) ?_
        refine AllReadyH.cons (o := ⟨none, _, _, _, _, _⟩) rfl (fun K0 hK => ?_) AllReadyH.nil
        rw [if_pos (by rfl)]
        refine wp_store_row 43 (.tmp 6) (.tmp 19) rfl gR _ rfl rfl _ _ (L.bk_ 1 rfl) op_sz rfl (opv_one _ _) ?_
        replace L := L.row 1 rfl (opv h3 (asked s2 k X))
        try dsimp only [nput] at L
        refine hK.out _ _ ⟨_, rfl, (L.less 4)⟩ (fun hHeld' => ?_)
        clear hHeld hK K0
        have hHeld := hHeld'
        clear hHeld'
        generalize w9.setRow gR (opv h3 (asked s2 k X)) = v10 at hHeld L ⊢
        try simp only [Act.put]
        refine wpAnyH_take (i := 6) (oi := ⟨some 7, _, _, _, _, _⟩) (v := .bool b) rfl (by kernel_rfl) (by kernel_rfl) (by kernel_rfl) (fun _ _ _ h => h) (Or.inl ⟨by rfl, ?_⟩) hHeld ?_
        · intro ww hS
          try dsimp only at hS
          go_simp
          try with_reducible rfl
          try omega
        try simp only [Act.put, List.setIfInBounds_toArray, List.set_cons_zero, List.set_cons_succ]
        refine wpAnyH_done (by kernel_rfl) ?_ _
        clear hHeld
        go_wp2
        refine eCT Tryz.results12 (.bool b) (L.bk_ 1 rfl) ?_
        exact ⟨_, rfl, (L.lists_at (l := ⟨rq, [], [], []⟩) 0 rfl).lower_ KS, L.K⟩
      · go_simp
        refine hK.out _ _ (L.other _) (fun hHeld' => ?_)
        clear hHeld hK K0
        have hHeld := hHeld'
        clear hHeld'
        replace L := L.alloc #[.int .i64 0, .int .u32 0, .slice none 0 0, .int .i64 0, .int .u32 0, .bool false, .slice none 0 0, .slice none 0 0, .int .i64 0, .int .i64 0, .int .i64 0, .int .i64 0, .int .i64 0, .int .u64 0, .bool false, .slice none 0 0, .int .i64 0, .int .i64 0, .int .i64 0, .int .i64 0] 43
        replace L := L.is 0 (opv hd0 sc0) rfl
        try dsimp only [nput] at L
        generalize w3.alloc (.cells #[.int .i64 0, .int .u32 0, .slice none 0 0, .int .i64 0, .int .u32 0, .bool false, .slice none 0 0, .slice none 0 0, .int .i64 0, .int .i64 0, .int .i64 0, .int .i64 0, .int .i64 0, .int .u64 0, .bool false, .slice none 0 0, .int .i64 0, .int .i64 0, .int .i64 0, .int .i64 0] 43) = v4 at hHeld L ⊢
        generalize w3.heap.size = gX at L ⊢
        try simp only [Act.put, List.setIfInBounds_toArray, List.set_cons_zero, List.set_cons_succ]
        refine wpAnyH_ready (rs := [6]) (by kernel_rfl) (by simp) ?_
        refine AllReadyH.cons (o := ⟨some 15, _, _, _, _, _⟩) rfl (fun K0 hK => ?_) AllReadyH.nil
        go_simp
        refine ((TB _ L.K (hI.below L.K)).out).mono ?_
        rintro e w5 ⟨h2, rfl, I1, I2, I3, K'⟩
        have Lb := L.lts
        replace L := L.over K'
        replace L := L.is_nil I3
        replace L := L.is_nil I2
        replace L := L.is_nil I1
        clear Lb
        try dsimp only [lF, List.cons_append, List.nil_append] at L
        clear I1 I2 I3
        refine hK.out _ _ ((L.less 3).del 0) (fun hHeld' => ?_)
        clear hHeld hK K0
        have hHeld := hHeld'
        clear hHeld'
        clear K'
        try simp only [Act.put, List.setIfInBounds_toArray, List.set_cons_zero, List.set_cons_succ]
        refine wpAnyH_ready (rs := [8]) (by kernel_rfl) (by simp) ?_
        refine AllReadyH.cons (o := ⟨none, _, _, _, _, _⟩) rfl (fun K0 hK => ?_) AllReadyH.nil
        rw [if_pos (by rfl)]
        refine wp_store_row 43 (.tmp 8) (.tmp 15) rfl gX _ rfl rfl _ _ (L.bk_ 0 rfl) op_sz rfl (opv_one _ _) ?_
        replace L := L.row 0 rfl (opv h2 s2)
        try dsimp only [nput] at L
        refine hK.out _ _ ((L.less 3).del 0) (fun hHeld' => ?_)
        clear hHeld hK K0
        have hHeld := hHeld'
        clear hHeld'
        generalize w5.setRow gX (opv h2 s2) = v6 at hHeld L ⊢
        try simp only [Act.put]
        refine wpAnyH_done (by kernel_rfl) ?_ _
        clear hHeld
        have z1 : h2.n1 ≤ 60000 := (by have h := (L.is_ 0 rfl).len; simp only [List.length_nil] at h; omega)
        have z2 : h2.n2 ≤ 60000 := (by have h := (L.is_ 1 rfl).len; simp only [List.length_nil] at h; omega)
        have z3 : h2.n3 ≤ 60000 := (by have h := (L.is_ 2 rfl).len; simp only [List.length_nil] at h; omega)
        obtain ⟨Q0, Q1, Q2, Qz⟩ := c3 (L.bk_ 2 rfl)
        have X0 := L.at_ 0 0 rfl (v := .int .i64 s2.kind) rfl
        have X1 := L.at_ 0 1 rfl (v := .int .u32 s2.addr) rfl
        have X2 := L.at_ 0 2 rfl (v := .slice h2.A0 h2.n0 h2.c0) rfl
        have Xz := L.lt 0 rfl
        have X0f := L.fz 0 0 rfl
        have X1f := L.fz 0 1 rfl
        have X2f := L.fz 0 2 rfl
        have nXQ := L.ne_ 0 2 rfl rfl (by decide)
        go_upto_region 3 with fail
        clear X0 X1 X2 Xz X0f X1f X2f nXQ Q0 Q1 Q2 Qz
        replace L := ((L.set 0 0 rfl (.int .i64 k)).set 0 1 rfl (.int .u32 (X : Int))).set 0 2 rfl (.slice A0 n0 c0)
        dsimp only [nput] at L
        generalize World.setCell (World.setCell (World.setCell _ _ _) _ _) _ _ = w7 at L ⊢
        replace L := L.is 0 (opv ⟨A0, n0, c0, h2.A1, h2.n1, h2.c1, h2.A2, h2.n2, h2.c2, h2.A3, h2.n3, h2.c3⟩ (asked s2 k X)) rfl
        have TOwn := fun w (L : Lists 0 w ⟨A0, n0, c0, h2.A1, h2.n1, h2.c1, h2.A2, h2.n2, h2.c2, h2.A3, h2.n3, h2.c3⟩ ⟨rq, [], [], []⟩) => Lib.hid (ownx (s := asked s2 k X) L (by show n0 ≤ _; omega) (by show h2.n1 ≤ _; omega) (by show h2.n2 ≤ _; omega) (by show h2.n3 ≤ _; omega))
        replace L := L.drew
        refine wp_region_held_drew (S := fun w' => ∃ v_R : Array Value, v_R.size = 20 ∧ Loc w w' [(gX, 43, opv ⟨A0, n0, c0, h2.A1, h2.n1, h2.c1, h2.A2, h2.n2, h2.c2, h2.A3, h2.n3, h2.c3⟩ (asked s2 k X)), (gR, 43, v_R), (gQ, 30, #[.int .i64 k, .int .u32 (X : Int), .slice A0 n0 c0]), (gH, 27, #[.int .u32 (a : Int), .int .i64 p, .slice A n c, .int .i64 (ns : Int), .int .i64 wo, .int .i64 qu, .int .i64 (tr : Int)])] [iF .u32 0 h2.A1 h2.n1 h2.c1 [], iF .i64 0 h2.A2 h2.n2 h2.c2 [], iF .u64 0 h2.A3 h2.n3 h2.c3 []]) (by kernel_rfl) (⟨_, rfl, L⟩) (fun hHeld => ?_)
        generalize w7.drew = v8 at hHeld L ⊢
        refine wpAnyH_take (i := 0) (oi := ⟨some 18, _, _, _, _, _⟩) (v := .agg (opv ⟨A0, n0, c0, h2.A1, h2.n1, h2.c1, h2.A2, h2.n2, h2.c2, h2.A3, h2.n3, h2.c3⟩ (asked s2 k X))) rfl (by kernel_rfl) (by kernel_rfl) (by kernel_rfl) (fun _ _ _ h => h) (yieldsIf_load_row (by rfl) 43 (.tmp 8) rfl gX rfl 43 _ (0, 0) _ (fun _ hS => ((hS.choose_spec.2).bk_ 0 rfl)) Tryz.underlying43 rfl op_sz) hHeld ?_
        try simp only [Act.put, List.setIfInBounds_toArray, List.set_cons_zero, List.set_cons_succ]
        refine wpAnyH_take (i := 2) (oi := ⟨some 20, _, _, _, _, _⟩) (v := .pointer (some ⟨gX, 8, none⟩)) rfl (by kernel_rfl) (by kernel_rfl) (by kernel_rfl) (fun _ _ _ h => h) (Or.inl ⟨by rfl, ?_⟩) hHeld ?_
        · intro ww hS
          try dsimp only at hS
          go_simp
          try with_reducible rfl
          try omega
        try simp only [Act.put, List.setIfInBounds_toArray, List.set_cons_zero, List.set_cons_succ]
        refine wpAnyH_take (i := 3) (oi := ⟨some 21, _, _, _, _, _⟩) (v := .int .i64 s2.phase) rfl (by kernel_rfl) (by kernel_rfl) (by kernel_rfl) (fun _ _ _ h => h) (Or.inl ⟨by rfl, ?_⟩) hHeld ?_
        · intro ww hS
          try dsimp only at hS
          have X_8 := (hS.choose_spec.2).at_ 0 8 rfl (v := .int .i64 s2.phase) rfl
          have X_z := (hS.choose_spec.2).lt 0 rfl
          go_simp
          try with_reducible rfl
          try omega
        try simp only [Act.put, List.setIfInBounds_toArray, List.set_cons_zero, List.set_cons_succ]
        refine wpAnyH_take (i := 4) (oi := ⟨some 22, _, _, _, _, _⟩) (v := .bool b) rfl (by kernel_rfl) (by kernel_rfl) (by kernel_rfl) (fun _ _ _ h => h) (Or.inl ⟨by rfl, ?_⟩) hHeld ?_
        · intro ww hS
          try dsimp only at hS
          have hb2 := hb
          go_simp
          try with_reducible rfl
          try omega
        try simp only [Act.put, List.setIfInBounds_toArray, List.set_cons_zero, List.set_cons_succ]
        refine wpAnyH_ready (rs := [1]) (by kernel_rfl) (by simp) ?_
        refine AllReadyH.cons (o := ⟨some 19, _, _, _, _, _⟩) rfl (fun K0 hK => ?_) AllReadyH.nil
        have KS := L.K.size
        go_simp
        refine ((TOwn _ ⟨(hI.below L.K).lower (Nat.zero_le _), L.is_ 0 rfl, L.is_ 1 rfl, L.is_ 2 rfl⟩).out).mono ?_
        rintro e w9 ⟨h3, rfl, L', K'⟩
        have Lb := L.lts
        replace L := L.over K'
        replace L := L.lists Lb L'
        clear Lb
        try dsimp only [lF, List.cons_append, List.nil_append] at L
        clear L'
        refine hK.out _ _ ⟨_, rfl, (L.less 4)⟩ (fun hHeld' => ?_)
        clear hHeld hK K0
        have hHeld := hHeld'
        clear hHeld'
        clear K'
        try simp only [Act.put, List.setIfInBounds_toArray, List.set_cons_zero, List.set_cons_succ]
        refine wpAnyH_ready (rs := [5]) (by kernel_rfl) (by simp) ?_
        refine AllReadyH.cons (o := ⟨none, _, _, _, _, _⟩) rfl (fun K0 hK => ?_) AllReadyH.nil
        rw [if_pos (by rfl)]
        refine wp_store_row 43 (.tmp 6) (.tmp 19) rfl gR _ rfl rfl _ _ (L.bk_ 1 rfl) op_sz rfl (opv_one _ _) ?_
        replace L := L.row 1 rfl (opv h3 (asked s2 k X))
        try dsimp only [nput] at L
        refine hK.out _ _ ⟨_, rfl, (L.less 4)⟩ (fun hHeld' => ?_)
        clear hHeld hK K0
        have hHeld := hHeld'
        clear hHeld'
        generalize w9.setRow gR (opv h3 (asked s2 k X)) = v10 at hHeld L ⊢
        try simp only [Act.put]
        refine wpAnyH_take (i := 6) (oi := ⟨some 7, _, _, _, _, _⟩) (v := .bool b) rfl (by kernel_rfl) (by kernel_rfl) (by kernel_rfl) (fun _ _ _ h => h) (Or.inl ⟨by rfl, ?_⟩) hHeld ?_
        · intro ww hS
          try dsimp only at hS
          go_simp
          try with_reducible rfl
          try omega
        try simp only [Act.put, List.setIfInBounds_toArray, List.set_cons_zero, List.set_cons_succ]
        refine wpAnyH_done (by kernel_rfl) ?_ _
        clear hHeld
        go_wp2
        refine eCT Tryz.results12 (.bool b) (L.bk_ 1 rfl) ?_
        exact ⟨_, rfl, (L.lists_at (l := ⟨rq, [], [], []⟩) 0 rfl).lower_ KS, L.K⟩
    · go_simp
      refine hK.out _ _ (L.other _) (fun hHeld' => ?_)
      clear hHeld hK K0
      have hHeld := hHeld'
      clear hHeld'
      replace L := L.alloc #[.int .i64 0, .int .u32 0, .slice none 0 0, .int .i64 0, .int .u32 0, .bool false, .slice none 0 0, .slice none 0 0, .int .i64 0, .int .i64 0, .int .i64 0, .int .i64 0, .int .i64 0, .int .u64 0, .bool false, .slice none 0 0, .int .i64 0, .int .i64 0, .int .i64 0, .int .i64 0] 43
      replace L := L.is 0 (opv hd0 sc0) rfl
      try dsimp only [nput] at L
      generalize v2.alloc (.cells #[.int .i64 0, .int .u32 0, .slice none 0 0, .int .i64 0, .int .u32 0, .bool false, .slice none 0 0, .slice none 0 0, .int .i64 0, .int .i64 0, .int .i64 0, .int .i64 0, .int .i64 0, .int .u64 0, .bool false, .slice none 0 0, .int .i64 0, .int .i64 0, .int .i64 0, .int .i64 0] 43) = v3 at hHeld L ⊢
      generalize v2.heap.size = gX at L ⊢
      try simp only [Act.put, List.setIfInBounds_toArray, List.set_cons_zero, List.set_cons_succ]
      refine wpAnyH_ready (rs := [2]) (by kernel_rfl) (by simp) ?_
      refine AllReadyH.cons (o := ⟨some 11, _, _, _, _, _⟩) rfl (fun K0 hK => ?_) AllReadyH.nil
      go_simp
      refine ((TA _ L.K (hI.below L.K)).out).mono ?_
      rintro e w4 ⟨rfl, K'⟩
      replace L := L.over K'
      refine hK.out _ _ (L.del 0) (fun hHeld' => ?_)
      clear hHeld hK K0
      have hHeld := hHeld'
      clear hHeld'
      clear K'
      try simp only [Act.put, List.setIfInBounds_toArray, List.set_cons_zero, List.set_cons_succ]
      refine wpAnyH_ready (rs := [6]) (by kernel_rfl) (by simp) ?_
      refine AllReadyH.cons (o := ⟨some 15, _, _, _, _, _⟩) rfl (fun K0 hK => ?_) AllReadyH.nil
      go_simp
      refine ((TB _ L.K (hI.below L.K)).out).mono ?_
      rintro e w5 ⟨h2, rfl, I1, I2, I3, K'⟩
      have Lb := L.lts
      replace L := L.over K'
      replace L := L.is_nil I3
      replace L := L.is_nil I2
      replace L := L.is_nil I1
      clear Lb
      try dsimp only [lF, List.cons_append, List.nil_append] at L
      clear I1 I2 I3
      refine hK.out _ _ ((L.less 3).del 0) (fun hHeld' => ?_)
      clear hHeld hK K0
      have hHeld := hHeld'
      clear hHeld'
      clear K'
      try simp only [Act.put, List.setIfInBounds_toArray, List.set_cons_zero, List.set_cons_succ]
      refine wpAnyH_ready (rs := [8]) (by kernel_rfl) (by simp) ?_
      refine AllReadyH.cons (o := ⟨none, _, _, _, _, _⟩) rfl (fun K0 hK => ?_) AllReadyH.nil
      rw [if_pos (by rfl)]
      refine wp_store_row 43 (.tmp 8) (.tmp 15) rfl gX _ rfl rfl _ _ (L.bk_ 0 rfl) op_sz rfl (opv_one _ _) ?_
      replace L := L.row 0 rfl (opv h2 s2)
      try dsimp only [nput] at L
      refine hK.out _ _ ((L.less 3).del 0) (fun hHeld' => ?_)
      clear hHeld hK K0
      have hHeld := hHeld'
      clear hHeld'
      generalize w5.setRow gX (opv h2 s2) = v6 at hHeld L ⊢
      try simp only [Act.put]
      refine wpAnyH_done (by kernel_rfl) ?_ _
      clear hHeld
      have z1 : h2.n1 ≤ 60000 := (by have h := (L.is_ 0 rfl).len; simp only [List.length_nil] at h; omega)
      have z2 : h2.n2 ≤ 60000 := (by have h := (L.is_ 1 rfl).len; simp only [List.length_nil] at h; omega)
      have z3 : h2.n3 ≤ 60000 := (by have h := (L.is_ 2 rfl).len; simp only [List.length_nil] at h; omega)
      obtain ⟨Q0, Q1, Q2, Qz⟩ := c3 (L.bk_ 2 rfl)
      have X0 := L.at_ 0 0 rfl (v := .int .i64 s2.kind) rfl
      have X1 := L.at_ 0 1 rfl (v := .int .u32 s2.addr) rfl
      have X2 := L.at_ 0 2 rfl (v := .slice h2.A0 h2.n0 h2.c0) rfl
      have Xz := L.lt 0 rfl
      have X0f := L.fz 0 0 rfl
      have X1f := L.fz 0 1 rfl
      have X2f := L.fz 0 2 rfl
      have nXQ := L.ne_ 0 2 rfl rfl (by decide)
      go_upto_region 3 with fail
      clear X0 X1 X2 Xz X0f X1f X2f nXQ Q0 Q1 Q2 Qz
      replace L := ((L.set 0 0 rfl (.int .i64 k)).set 0 1 rfl (.int .u32 (X : Int))).set 0 2 rfl (.slice A0 n0 c0)
      dsimp only [nput] at L
      generalize World.setCell (World.setCell (World.setCell _ _ _) _ _) _ _ = w7 at L ⊢
      replace L := L.is 0 (opv ⟨A0, n0, c0, h2.A1, h2.n1, h2.c1, h2.A2, h2.n2, h2.c2, h2.A3, h2.n3, h2.c3⟩ (asked s2 k X)) rfl
      have TOwn := fun w (L : Lists 0 w ⟨A0, n0, c0, h2.A1, h2.n1, h2.c1, h2.A2, h2.n2, h2.c2, h2.A3, h2.n3, h2.c3⟩ ⟨rq, [], [], []⟩) => Lib.hid (ownx (s := asked s2 k X) L (by show n0 ≤ _; omega) (by show h2.n1 ≤ _; omega) (by show h2.n2 ≤ _; omega) (by show h2.n3 ≤ _; omega))
      replace L := L.drew
      refine wp_region_held_drew (S := fun w' => ∃ v_R : Array Value, v_R.size = 20 ∧ Loc w w' [(gX, 43, opv ⟨A0, n0, c0, h2.A1, h2.n1, h2.c1, h2.A2, h2.n2, h2.c2, h2.A3, h2.n3, h2.c3⟩ (asked s2 k X)), (gR, 43, v_R), (gQ, 30, #[.int .i64 k, .int .u32 (X : Int), .slice A0 n0 c0]), (gH, 27, #[.int .u32 (a : Int), .int .i64 p, .slice A n c, .int .i64 (ns : Int), .int .i64 wo, .int .i64 qu, .int .i64 (tr : Int)])] [iF .u32 0 h2.A1 h2.n1 h2.c1 [], iF .i64 0 h2.A2 h2.n2 h2.c2 [], iF .u64 0 h2.A3 h2.n3 h2.c3 []]) (by kernel_rfl) (⟨_, rfl, L⟩) (fun hHeld => ?_)
      generalize w7.drew = v8 at hHeld L ⊢
      refine wpAnyH_take (i := 0) (oi := ⟨some 18, _, _, _, _, _⟩) (v := .agg (opv ⟨A0, n0, c0, h2.A1, h2.n1, h2.c1, h2.A2, h2.n2, h2.c2, h2.A3, h2.n3, h2.c3⟩ (asked s2 k X))) rfl (by kernel_rfl) (by kernel_rfl) (by kernel_rfl) (fun _ _ _ h => h) (yieldsIf_load_row (by rfl) 43 (.tmp 8) rfl gX rfl 43 _ (0, 0) _ (fun _ hS => ((hS.choose_spec.2).bk_ 0 rfl)) Tryz.underlying43 rfl op_sz) hHeld ?_
      try simp only [Act.put, List.setIfInBounds_toArray, List.set_cons_zero, List.set_cons_succ]
      refine wpAnyH_take (i := 2) (oi := ⟨some 20, _, _, _, _, _⟩) (v := .pointer (some ⟨gX, 8, none⟩)) rfl (by kernel_rfl) (by kernel_rfl) (by kernel_rfl) (fun _ _ _ h => h) (Or.inl ⟨by rfl, ?_⟩) hHeld ?_
      · intro ww hS
        try dsimp only at hS
        go_simp
        try with_reducible rfl
        try omega
      try simp only [Act.put, List.setIfInBounds_toArray, List.set_cons_zero, List.set_cons_succ]
      refine wpAnyH_take (i := 3) (oi := ⟨some 21, _, _, _, _, _⟩) (v := .int .i64 s2.phase) rfl (by kernel_rfl) (by kernel_rfl) (by kernel_rfl) (fun _ _ _ h => h) (Or.inl ⟨by rfl, ?_⟩) hHeld ?_
      · intro ww hS
        try dsimp only at hS
        have X_8 := (hS.choose_spec.2).at_ 0 8 rfl (v := .int .i64 s2.phase) rfl
        have X_z := (hS.choose_spec.2).lt 0 rfl
        go_simp
        try with_reducible rfl
        try omega
      try simp only [Act.put, List.setIfInBounds_toArray, List.set_cons_zero, List.set_cons_succ]
      refine wpAnyH_take (i := 4) (oi := ⟨some 22, _, _, _, _, _⟩) (v := .bool b) rfl (by kernel_rfl) (by kernel_rfl) (by kernel_rfl) (fun _ _ _ h => h) (Or.inl ⟨by rfl, ?_⟩) hHeld ?_
      · intro ww hS
        try dsimp only at hS
        have hb2 := hb
        go_simp
        try with_reducible rfl
        try omega
      try simp only [Act.put, List.setIfInBounds_toArray, List.set_cons_zero, List.set_cons_succ]
      refine wpAnyH_ready (rs := [1]) (by kernel_rfl) (by simp) ?_
      refine AllReadyH.cons (o := ⟨some 19, _, _, _, _, _⟩) rfl (fun K0 hK => ?_) AllReadyH.nil
      have KS := L.K.size
      go_simp
      refine ((TOwn _ ⟨(hI.below L.K).lower (Nat.zero_le _), L.is_ 0 rfl, L.is_ 1 rfl, L.is_ 2 rfl⟩).out).mono ?_
      rintro e w9 ⟨h3, rfl, L', K'⟩
      have Lb := L.lts
      replace L := L.over K'
      replace L := L.lists Lb L'
      clear Lb
      try dsimp only [lF, List.cons_append, List.nil_append] at L
      clear L'
      refine hK.out _ _ ⟨_, rfl, (L.less 4)⟩ (fun hHeld' => ?_)
      clear hHeld hK K0
      have hHeld := hHeld'
      clear hHeld'
      clear K'
      try simp only [Act.put, List.setIfInBounds_toArray, List.set_cons_zero, List.set_cons_succ]
      refine wpAnyH_ready (rs := [5]) (by kernel_rfl) (by simp) ?_
      refine AllReadyH.cons (o := ⟨none, _, _, _, _, _⟩) rfl (fun K0 hK => ?_) AllReadyH.nil
      rw [if_pos (by rfl)]
      refine wp_store_row 43 (.tmp 6) (.tmp 19) rfl gR _ rfl rfl _ _ (L.bk_ 1 rfl) op_sz rfl (opv_one _ _) ?_
      replace L := L.row 1 rfl (opv h3 (asked s2 k X))
      try dsimp only [nput] at L
      refine hK.out _ _ ⟨_, rfl, (L.less 4)⟩ (fun hHeld' => ?_)
      clear hHeld hK K0
      have hHeld := hHeld'
      clear hHeld'
      generalize w9.setRow gR (opv h3 (asked s2 k X)) = v10 at hHeld L ⊢
      try simp only [Act.put]
      refine wpAnyH_take (i := 6) (oi := ⟨some 7, _, _, _, _, _⟩) (v := .bool b) rfl (by kernel_rfl) (by kernel_rfl) (by kernel_rfl) (fun _ _ _ h => h) (Or.inl ⟨by rfl, ?_⟩) hHeld ?_
      · intro ww hS
        try dsimp only at hS
        go_simp
        try with_reducible rfl
        try omega
      try simp only [Act.put, List.setIfInBounds_toArray, List.set_cons_zero, List.set_cons_succ]
      refine wpAnyH_done (by kernel_rfl) ?_ _
      clear hHeld
      go_wp2
      refine eCT Tryz.results12 (.bool b) (L.bk_ 1 rfl) ?_
      exact ⟨_, rfl, (L.lists_at (l := ⟨rq, [], [], []⟩) 0 rfl).lower_ KS, L.K⟩
theorem pbeg (hW : Laid w) (ha : a < 4294967296) (hM : Much a p M) (h1 : 1 ≤ ns) (htr : 1 ≤ tr) (hZ : IS .i64 lz w A n c zs) (hn : n ≤ 60000) (hd0 : 0 ≤ hd) (hd1 : hd < (ns : Int)) (hX : X < 4294967296) (hI : IS .u32 lo2 w A0 n0 c0 rq) (hn0 : n0 ≤ 60000) (hw : W32 rq) :
    Calls Tryz.prog 12 #[.agg #[.int .u32 (a : Int), .int .i64 p, .slice A n c, .int .i64 (ns : Int), .int .i64 wo, .int .i64 qu, .int .i64 (tr : Int)], .int .i64 hd, .agg #[.int .i64 k, .int .u32 (X : Int), .slice A0 n0 c0]] w (RetPB a M ns tr zs k X rq w) := by
  by_cases hE : askE a M zs k (X : Int) rq ≠ 0
  · refine (pbeg_to (T := 101) (f := 106) (s2 := endS (askE a M zs k (X : Int) rq)) (b := true) (by decide) (fun _ => by kernel_rfl) hI hn0 rfl (fun w K I => Lib.hid (pask_no (hW.below K) ha hM (hZ.below K) hn hX I hn0 hw hE)) (fun w K I => Lib.hid (pb_e _))).mono ?_
    rintro e w' ⟨h', rfl, L, K⟩
    exact ⟨h', _, _, true, rfl, L, rfl, .inl ⟨rfl, .inl hE, ⟨rfl, rfl, rfl⟩, rfl⟩, K⟩
  · have he : askE a M zs k (X : Int) rq = 0 := Decidable.byContradiction fun h => hE h
    by_cases h7 : k = 7
    · subst h7
      refine (pbeg_to (T := 101) (f := 106) (s2 := endS 0) (b := true) (by decide) (fun _ => by kernel_rfl) hI hn0 rfl (fun w K I => Lib.hid (pask_yes (hW.below K) ha hM (hZ.below K) hn hX I hn0 hw he (fun w => Lib.hid (pof_7 w)))) (fun w K I => Lib.hid (pb_e _))).mono ?_
      rintro e w' ⟨h', rfl, L, K⟩
      exact ⟨h', _, _, true, rfl, L, rfl, .inl ⟨rfl, .inr rfl, ⟨rfl, rfl, rfl⟩, by rw [he]; rfl⟩, K⟩
    obtain ⟨k1, k7, k4, -⟩ := askE_ok he
    have hmo : mostN a M ns tr zs k X rq = if k = 1 then ns * (tv M + 3) + 2 * lv M + 6 else if k = 4 then 6 * rq.length else if k = 6 then 2 * lv M * tr else 6 := by unfold mostN; rw [if_neg (by rintro (h | h); exact h he; exact h7 h)]
    have mono : ∀ {s2 : Sc} {e w'}, PI a M ns tr zs k X rq 0 0 (asked s2 k X) ⟨rq, [], [], []⟩ → (k = 1 → s2.phase = 1) → (∀ ys, PA a M ns zs k X rq ys ys (mostN a M ns tr zs k X rq) (asked s2 k X) ⟨rq, [], [], []⟩) → (∃ h', e = .returned (.tuple #[.agg (opv h' (asked s2 k X)), .bool false]) ∧ Lists w.heap.size w' h' ⟨rq, [], [], []⟩ ∧ Below w.heap.size w w') → RetPB a M ns tr zs k X rq w e w' := by
      rintro s2 e w' i1 i2 i3 ⟨h', rfl, L, K⟩
      exact ⟨h', _, _, false, rfl, L, rfl, .inr ⟨rfl, he, h7, i1, i2, i3⟩, K⟩
    have one : k = 2 ∨ k = 5 → ∃ o, X = a + o ∧ o < M ∧ hasB zs (o : Int) = false := fun hk => by
      rw [askE_one (by omega), Int.toNat_natCast] at he
      obtain ⟨o, o1, o2, o3⟩ := fi_in he
      exact ⟨o, o1, o2, o3⟩
    have hpos : ∀ y ∈ rq, 0 ≤ y := fun y hy => (hw y hy).1
    by_cases q1 : k = 1
    · have S := fun ys => gx_start (M := M) (tr := tr) (zs := zs) (X := X) (rq := rq) (N := 0) (item := 0) (ys := ys) (a := a) (left := mostN a M ns tr zs k X rq) h1 hd0 hd1 q1
      subst q1
      exact (pbeg_to (T := 106) (f := 109) (s2 := gS0 hd) (b := false) (by decide) (fun _ => by kernel_rfl) hI hn0 rfl (fun w K I => Lib.hid (pask_yes (hW.below K) ha hM (hZ.below K) hn hX I hn0 hw he (fun w => Lib.hid (pof_1 w)))) (fun w K I => Lib.hid (pb_g))).mono fun e w' R => mono (s2 := gS0 hd) (S []).1 (fun _ => rfl) (fun ys => (S ys).2 (by rw [hmo, if_pos rfl, Nat.add_comm (tv M) 3]; omega)) R
    · by_cases q2 : k = 2 ∨ k = 5
      · obtain ⟨o, o1, o2, o3⟩ := one q2
        have S := fun ys => ex_start (ns := ns) (tr := tr) (rq := rq) (N := 0) (item := 0) (ys := ys) q2 o1 o2 o3 (left := mostN a M ns tr zs k X rq) (by rw [hmo, if_neg q1, if_neg (by omega), if_neg (by omega)]; omega)
        exact (pbeg_to (T := 107) (f := 169) (s2 := eS0 k (X : Int) o) (b := false) (by decide) (fun _ => by kernel_rfl) hI hn0 rfl (fun w K I => Lib.hid (pask_yes (hW.below K) ha hM (hZ.below K) hn hX I hn0 hw he (fun w => Lib.hid (by rcases q2 with rfl | rfl; exact pof_2 w; exact pof_5 w)))) (fun w K I => Lib.hid (pb_x I fun w K I => Lib.hid (xbegin_any (tr := (tr : Int)) ha hM hX o1 o2 I (by omega))))).mono fun e w' R => mono (s2 := eS0 k (X : Int) o) (S []).1 (fun h => absurd h q1) (fun ys => (S ys).2) R
      · by_cases q3 : k = 3 ∨ k = 4
        · obtain ⟨hok, hnm⟩ := nm_ok q3 he hpos
          have S := fun ys => ba_start (ns := ns) (tr := tr) (N := 0) (ys := ys) (left := mostN a M ns tr zs k X rq) q3 hok hnm (by
            rcases q3 with rfl | rfl
            · rw [hmo, if_neg (by omega), if_neg (by omega), if_neg (by omega), nmI_one (.inr (.inl rfl))]; exact Nat.le_refl _
            · rw [hmo, if_neg (by omega), if_pos rfl, nmI_all]; exact Nat.le_refl _)
          have hk9 : k = 3 ∧ nmI k (X : Int) rq = [(X : Int)] ∨ k = 4 ∧ nmI k (X : Int) rq = rq := q3.imp (fun h => ⟨h, nmI_one (.inr (.inl h))⟩) (fun h => ⟨h, by rw [h]; exact nmI_all⟩)
          exact (pbeg_to (T := 108) (f := 179) (s2 := bS0 k (X : Int) (bof a (nmI k (X : Int) rq) 0)) (b := false) (by decide) (fun _ => by kernel_rfl) hI hn0 rfl (fun w K I => Lib.hid (pask_yes (hW.below K) ha hM (hZ.below K) hn hX I hn0 hw he (fun w => Lib.hid (by rcases q3 with rfl | rfl; exact pof_3 w; exact pof_4 w)))) (fun w K I => Lib.hid (pb_b I fun w K I => Lib.hid (bbegin_any (tr := (tr : Int)) ha hM hX hk9 hok hnm I (by omega))))).mono fun e w' R => mono (s2 := bS0 k (X : Int) (bof a (nmI k (X : Int) rq) 0)) (S []).1 (fun h => absurd h q1) (fun ys => (S ys).2) R
        · have q6 : k = 6 := by omega
          have S := fun ys => sn_start (a := a) (ns := ns) (zs := zs) (X := X) (rq := rq) (N := 0) (item := 0) (ys := ys) hM.pos htr q6 (left := mostN a M ns tr zs k X rq) (by rw [hmo, if_neg q1, if_neg (by omega), if_pos q6]; exact Nat.le_mul_of_pos_right _ htr)
          subst q6
          exact (pbeg_to (T := 109) (f := 195) (s2 := nS0) (b := false) (by decide) (fun _ => by kernel_rfl) hI hn0 rfl (fun w K I => Lib.hid (pask_yes (hW.below K) ha hM (hZ.below K) hn hX I hn0 hw he (fun w => Lib.hid (pof_6 w)))) (fun w K I => Lib.hid (pb_s))).mono fun e w' R => mono (s2 := nS0) (S []).1 (fun h => absurd h q1) (fun ys => (S ys).2) R
end
theorem op_answer (h : Hd) (s : Sc) (w : World) : (Instr.field 43 (.agg (opv h s)) 1).run Tryz.prog w = .ok (.agg #[.int .i64 s.err, .int .u32 s.aad, .bool s.used, .slice h.A1 h.n1 h.c1, .slice h.A2 h.n2 h.c2]) w := by kernel_rfl
set_option maxHeartbeats 4000000 in
theorem ptol_own {w : World} {lo : Nat} {h : Hd} {s : Sc} {l : Ls} (hL : Lists lo w h l) (h0 : h.n0 ≤ 60000) (h1 : h.n1 ≤ 65536) (h2 : h.n2 ≤ 60000) (h3 : h.n3 ≤ 65000) (hk : ¬ (s.kind = 4 ∧ 0 < h.n2)) :
    Calls Tryz.prog 15 #[.agg (opv h s)] w (RetAn (anS s l) w) := by
  have TOwn := fun w (L : Lists lo w h l) => Lib.hid (own_any (s := s) L (by omega) h1 (by omega) (by omega))
  have Z : (s.kind == 4) = false ∨ (s.kind == 4) = true ∧ decide (0 < h.n2) = false := by
    by_cases q : s.kind = 4
    · exact .inr ⟨by simpa using q, decide_eq_false fun g => hk ⟨q, g⟩⟩
    · exact .inl (by simpa using q)
  clear hk h0 h1 h2 h3
  rcases s with ⟨kind, addr, err, aad, used, phase, shard, sought, leaf, bit, word, full, at_, tries, item, stamp⟩
  rcases h with ⟨A0, n0, c0, A1, n1, c1, A2, n2, c2, A3, n3, c3⟩
  dsimp only at *
  go_enter Tryz.func15, Tryz.ntmps15
  go_upto_region 1 with (fail)
  have L := Loc.start w
  generalize hal : World.alloc _ _ = w1
  replace L := L.a2 hal
  clear hal
  generalize w.heap.size + 1 = gR at L ⊢
  generalize w.heap.size = gO at L ⊢
  have O0 := L.at_ 1 0 rfl (v := .int .i64 kind) rfl
  have O7 := L.at_ 1 7 rfl (v := .slice A2 n2 c2) rfl
  have Oz := L.lt 1 rfl
  rcases Z with Z | ⟨Z, Z2⟩
  all_goals
    go_wp2_with (refine lO 1 (L.bk_ 1 rfl) ?_)
    have KS := L.K.size
    refine (TOwn _ (hL.below L.K)).out.mono ?_
    rintro _ w8 ⟨A0', c0', A1', c1', A2', c2', A3', c3', rfl, L', K'⟩
    have Lb := L.lts
    replace L := L.over K'
    replace L := L.lists Lb L'
    clear O0 O7 Oz
    have hfd := op_answer ⟨A0', n0, c0', A1', n1, c1', A2', n2, c2', A3', n3, c3'⟩ ⟨kind, addr, err, aad, used, phase, shard, sought, leaf, bit, word, full, at_, tries, item, stamp⟩
    go_wp2_with (refine wpList_store_row rfl 40 (.tmp 2) (.tmp 25) rfl gR #[.int .i64 err, .int .u32 aad, .bool used, .slice A1' n1 c1', .slice A2' n2 c2'] rfl rfl _ _ (L.bk_ 0 rfl) an_sz rfl (by simp [Value.oneCell']) ?_)
    generalize hal : World.setRow _ _ _ = w9
    replace L := L.rr0 hal
    clear hal
    refine bodyPost_ret (results_cell_row Tryz.results15 _ _ gR _ _ (0, 0) _ rfl (L.bk_ 0 rfl) Tryz.underlying40 rfl an_sz) rfl ?_
    exact ⟨_, _, _, _, _, _, rfl, (L.is_ 1 rfl).lower KS, (L.is_ 2 rfl).lower KS, L.K⟩
set_option maxHeartbeats 4000000 in
theorem ptol_last {w : World} {lo : Nat} {h : Hd} {s : Sc} {l : Ls} (hL : Lists lo w h l) (h2 : h.n2 ≤ 60000) (hk : s.kind = 4) {j : Nat} (hj : h.n2 = j + 1) :
    Calls Tryz.prog 15 #[.agg (opv h s)] w (RetAn (an0 (gi l.ers j)) w) := by
  obtain ⟨bb, oo, hA, hbb, hcc⟩ := hL.i2.get (j := j) (by omega)
  obtain ⟨v, hv⟩ : ∃ v, gi l.ers j = v := ⟨_, rfl⟩
  rw [hv] at hcc ⊢
  have e2 : decide (0 < h.n2) = true := decide_eq_true (by omega)
  have e3 : (h.n2 : Int) - 1 = (j : Int) := by omega
  have e4 : IntKind.i64.wrap (j : Int) = (j : Int) := IntWalk.i64_in _ (by omega)
  have e5 : (j : Int) < (h.n2 : Int) := by omega
  clear hv
  replace hj := Lib.hid hj
  rcases s with ⟨kind, addr, err, aad, used, phase, shard, sought, leaf, bit, word, full, at_, tries, item, stamp⟩
  rcases h with ⟨A0, n0, c0, A1, n1, c1, A2, n2, c2, A3, n3, c3⟩
  dsimp only at *
  subst hA hk
  go_enter Tryz.func15, Tryz.ntmps15
  go_upto_region 1 with (fail)
  have L := Loc.start w
  generalize hal : World.alloc _ _ = w1
  replace L := L.a2 hal
  clear hal
  generalize w.heap.size + 1 = gR at L ⊢
  generalize w.heap.size = gO at L ⊢
  have O0 := L.at_ 1 0 rfl (v := .int .i64 4) rfl
  have O7 := L.at_ 1 7 rfl (v := .slice (some ⟨bb, oo, none⟩) n2 c2) rfl
  have Oz := L.lt 1 rfl
  have X := (L.K.cell (p := ⟨bb, oo + j, none⟩) hbb).trans hcc
  go_wp2_with (refine wpList_store_row rfl 40 (.tmp 2) (.tmp 22) rfl gR #[.int .i64 v, .int .u32 0, .bool false, .slice none 0 0, .slice none 0 0] rfl rfl _ _ (L.bk_ 0 rfl) an_sz rfl (by simp [Value.oneCell']) ?_)
  generalize hal : World.setRow _ _ _ = w9
  replace L := L.rr0 hal
  clear hal
  refine bodyPost_ret (results_cell_row Tryz.results15 _ _ gR _ _ (0, 0) _ rfl (L.bk_ 0 rfl) Tryz.underlying40 rfl an_sz) rfl ?_
  exact ⟨_, _, _, _, _, _, rfl, IS.none_ _ _ _, IS.none_ _ _ _, L.K⟩
set_option maxHeartbeats 4000000 in
theorem ptol {w : World} {lo : Nat} {h : Hd} {s : Sc} {l : Ls} (hL : Lists lo w h l) (h0 : h.n0 ≤ 60000) (h1 : h.n1 ≤ 65536) (h2 : h.n2 ≤ 60000) (h3 : h.n3 ≤ 65000) :
    Calls Tryz.prog 15 #[.agg (opv h s)] w (RetAn (tld s l) w) := by
  have hl := hL.i2.len
  unfold tld
  by_cases hk : s.kind = 4 ∧ 0 < h.n2
  · obtain ⟨j, hj⟩ : ∃ j, h.n2 = j + 1 := ⟨h.n2 - 1, by omega⟩
    rw [if_pos ⟨hk.1, fun e => by rw [e] at hl; simp at hl; omega⟩]
    have R := ptol_last hL h2 hk.1 hj
    have e : l.ers.getLast?.getD 0 = gi l.ers j := by
      rw [List.getLast?_eq_getElem?, hl, hj, Nat.add_sub_cancel]; rfl
    rw [e]; exact R
  · rw [if_neg (fun g => hk ⟨g.1, by rcases Nat.eq_zero_or_pos h.n2 with q | q; exact absurd (List.eq_nil_of_length_eq_zero (by omega)) g.2; exact q⟩)]
    exact ptol_own hL h0 h1 h2 h3 hk
section
end
end Go.Proofs.YtfhefofkhmkcnaaGreatDoor

/-
  What lodger/pool.Most answers, and all that the laws want of pool. Conditions: a configuration that may be.
-/
namespace Go.Proofs.YtfhefofkhmkcnaaGreatDoor
set_option maxRecDepth 100000
set_option maxRecDepth 100000
open Go.RowKit
set_option linter.unusedVariables false
section
variable {w : World} {lo lo2 lz a M m d ns tr N item X n0 c0 : Nat} {p wo qu k hd : Int} {A A0 B : Option Addr} {n c : Nat} {zs rq : List Int} {ys : List Nat} {h : Hd} {s : Sc} {l : Ls}
set_option maxHeartbeats 4000000 in
theorem pmo_x :
    Calls Tryz.prog 170 #[.agg #[], .agg #[.int .u32 (a : Int), .int .i64 p, .slice A n c, .int .i64 (ns : Int), .int .i64 wo, .int .i64 qu, .int .i64 (tr : Int)], .agg #[.int .i64 k, .int .u32 (X : Int), .slice A0 n0 c0]] w (fun e w' => e = .returned (.int .i64 6) ∧ Below w.heap.size w w') := by
  go_enter Tryz.func170, Tryz.ntmps170
  go_upto_region 1 with (fail)
  have L := Loc.start w
  generalize hal : World.alloc _ _ = w1
  replace L := L.a3 hal
  clear hal
  generalize w.heap.size + 1 + 1 = gQ at L ⊢
  generalize w.heap.size + 1 = gH at L ⊢
  generalize w.heap.size = gE at L ⊢
  go_wp2
  go_ret
  exact ⟨rfl, L.K⟩
set_option maxHeartbeats 4000000 in
theorem pmo_e (E : Int) :
    Calls Tryz.prog 107 #[.agg #[.int .i64 E], .agg #[.int .u32 (a : Int), .int .i64 p, .slice A n c, .int .i64 (ns : Int), .int .i64 wo, .int .i64 qu, .int .i64 (tr : Int)], .agg #[.int .i64 k, .int .u32 (X : Int), .slice A0 n0 c0]] w (fun e w' => e = .returned (.int .i64 0) ∧ Below w.heap.size w w') := by
  go_enter Tryz.func107, Tryz.ntmps107
  go_upto_region 1 with (fail)
  have L := Loc.start w
  generalize hal : World.alloc _ _ = w1
  replace L := L.a3 hal
  clear hal
  generalize w.heap.size + 1 + 1 = gQ at L ⊢
  generalize w.heap.size + 1 = gH at L ⊢
  generalize w.heap.size = gE at L ⊢
  go_wp2
  go_ret
  exact ⟨rfl, L.K⟩
set_option maxHeartbeats 4000000 in
theorem pmo_b (hW : Laid w) (hI : IS .u32 lo2 w A0 n0 c0 rq) (hn0 : n0 ≤ 60000) {q : Nat} (hq : (nmI k (X : Int) rq).length = q) (hq2 : q ≤ 60000) :
    Calls Tryz.prog 180 #[.agg #[], .agg #[.int .u32 (a : Int), .int .i64 p, .slice A n c, .int .i64 (ns : Int), .int .i64 wo, .int .i64 qu, .int .i64 (tr : Int)], .agg #[.int .i64 k, .int .u32 (X : Int), .slice A0 n0 c0]] w (fun e w' => e = .returned (.int .i64 ((6 * q : Nat) : Int)) ∧ Below w.heap.size w w') := by
  have TN := fun w (hW : Laid w) (hI : IS .u32 lo2 w A0 n0 c0 rq) => Lib.hid (names_any (k := k) (x := (X : Int)) hW hI hn0)
  have e1 : IntKind.i64.wrap (6 * (q : Int)) = 6 * (q : Int) := IntWalk.i64_in _ (by omega)
  go_enter Tryz.func180, Tryz.ntmps180
  go_upto_region 1 with (fail)
  have L := Loc.start w
  generalize hal : World.alloc _ _ = w1
  replace L := L.a3 hal
  clear hal
  generalize w.heap.size + 1 + 1 = gQ at L ⊢
  generalize w.heap.size + 1 = gH at L ⊢
  generalize w.heap.size = gE at L ⊢
  obtain ⟨Q0, Q1, Q2, Qz⟩ := c3 (L.bk_ 0 rfl)
  go_upto_region 1 with (fail)
  go_wp2_with fail
  refine (TN _ (hW.below L.K) (hI.below L.K)).out.mono ?_
  rintro _ w2 ⟨A9, n9, c9, rfl, R9, K'⟩
  obtain rfl : n9 = q := R9.len.symm.trans hq
  clear Q0 Q1 Q2 Qz R9
  replace L := L.over K'
  clear K'
  go_wp2
  go_ret
  exact ⟨by push_cast; rfl, L.K⟩
set_option maxHeartbeats 4000000 in
theorem pmo_g (ha : a < 4294967296) (hM : Much a p M) (h2 : ns ≤ 64) :
    Calls Tryz.prog 110 #[.agg #[], .agg #[.int .u32 (a : Int), .int .i64 p, .slice A n c, .int .i64 (ns : Int), .int .i64 wo, .int .i64 qu, .int .i64 (tr : Int)], .agg #[.int .i64 k, .int .u32 (X : Int), .slice A0 n0 c0]] w (fun e w' => e = .returned (.int .i64 ((ns * (tv M + 3) + 2 * lv M + 6 : Nat) : Int)) ∧ Below w.heap.size w w') := by
  have hm := hM.most
  have hl := lv_le hm
  have ht := tv_le hm
  have TM := fun w => Lib.hid (many_yes (w := w) ha hM)
  have TL := fun w => Lib.hid ((leaves_any M hm w).mono fun _ _ h => (⟨h.1, h.2.symm⟩ : _ ∧ _))
  have TT := fun w => Lib.hid ((tops_any M hm w).mono fun _ _ h => (⟨h.1, h.2.symm⟩ : _ ∧ _))
  have b1 : ns * (tv M + 3) ≤ 64 * 35 := Nat.mul_le_mul h2 (by omega)
  generalize lv M = lm at *
  generalize tv M = tm at *
  have w1 : IntKind.i64.wrap ((tm : Int) + 3) = (tm : Int) + 3 := IntWalk.i64_in _ (by omega)
  have w0 : (ns : Int) * ((tm : Int) + 3) = ((ns * (tm + 3) : Nat) : Int) := by push_cast; rfl
  generalize ns * (tm + 3) = P at *
  have w2 : IntKind.i64.wrap (P : Int) = P := IntWalk.i64_in _ (by omega)
  have w3 : IntKind.i64.wrap (2 * (lm : Int)) = 2 * (lm : Int) := IntWalk.i64_in _ (by omega)
  have w4 : IntKind.i64.wrap ((P : Int) + 2 * (lm : Int)) = (P : Int) + 2 * (lm : Int) := IntWalk.i64_in _ (by omega)
  have w5 : IntKind.i64.wrap ((P : Int) + 2 * (lm : Int) + 6) = (P : Int) + 2 * (lm : Int) + 6 := IntWalk.i64_in _ (by omega)
  go_enter Tryz.func110, Tryz.ntmps110
  go_upto_region 1 with (fail)
  have L := Loc.start w
  generalize hal : World.alloc _ _ = w1
  replace L := L.a3 hal
  clear hal
  generalize w.heap.size + 1 + 1 = gQ at L ⊢
  generalize w.heap.size + 1 = gH at L ⊢
  generalize w.heap.size = gE at L ⊢
  have C0 := L.at_ 1 0 rfl (v := .int .u32 (a : Int)) rfl
  have C1 := L.at_ 1 1 rfl (v := .int .i64 p) rfl
  have Cz := L.lt 1 rfl
  go_wp2_with ((with_reducible refine (TM _).out.mono ?_); rintro _ w2 ⟨rfl, K'⟩; clear C0 C1 Cz; replace L := L.over K'; clear K'; have C2 := L.at_ 1 3 rfl (v := .int .i64 (ns : Int)) rfl; have Cz := L.lt 1 rfl)
  go_quiet (first | refine Calls.quiet_of_same (TL _).out | refine Calls.quiet_of_same (TT _).out)
  generalize hd : World.drewN _ _ = w5
  replace L := L.over (hd ▸ below_drewN (Below.refl _ _) _)
  go_wp2
  go_ret
  exact ⟨by push_cast; rfl, L.K⟩
set_option maxHeartbeats 4000000 in
theorem pmo_s (ha : a < 4294967296) (hM : Much a p M) (htr : tr ≤ 60000) :
    Calls Tryz.prog 196 #[.agg #[], .agg #[.int .u32 (a : Int), .int .i64 p, .slice A n c, .int .i64 (ns : Int), .int .i64 wo, .int .i64 qu, .int .i64 (tr : Int)], .agg #[.int .i64 k, .int .u32 (X : Int), .slice A0 n0 c0]] w (fun e w' => e = .returned (.int .i64 ((2 * lv M * tr : Nat) : Int)) ∧ Below w.heap.size w w') := by
  go_enter Tryz.func196, Tryz.ntmps196
  go_upto_region 1 with (fail)
  have L := Loc.start w
  replace L := (((L).alloc #[] 109).alloc #[.int .u32 (a : Int), .int .i64 p, .slice A n c, .int .i64 (ns : Int), .int .i64 wo, .int .i64 qu, .int .i64 (tr : Int)] 27).alloc #[.int .i64 k, .int .u32 (X : Int), .slice A0 n0 c0] 30
  try simp only [World.size_alloc] at L
  try dsimp only [nput] at L
  generalize (((w).alloc (.cells #[] 109)).alloc (.cells #[.int .u32 (a : Int), .int .i64 p, .slice A n c, .int .i64 (ns : Int), .int .i64 wo, .int .i64 qu, .int .i64 (tr : Int)] 27)).alloc (.cells #[.int .i64 k, .int .u32 (X : Int), .slice A0 n0 c0] 30) = w1 at L ⊢
  generalize w.heap.size + 1 + 1 = gQ at L ⊢
  generalize w.heap.size + 1 = gH at L ⊢
  generalize w.heap.size = gE at L ⊢
  replace L := L.drew
  refine wp_region_held_drew (S := fun w' => Loc w w' [(gQ, 30, #[.int .i64 k, .int .u32 (X : Int), .slice A0 n0 c0]), (gH, 27, #[.int .u32 (a : Int), .int .i64 p, .slice A n c, .int .i64 (ns : Int), .int .i64 wo, .int .i64 qu, .int .i64 (tr : Int)]), (gE, 109, #[])] []) (by kernel_rfl) L (fun hHeld => ?_)
  generalize w1.drew = v2 at hHeld L ⊢
  refine wpAnyH_take (i := 0) (oi := ⟨some 7, _, _, _, _, _⟩) (v := .agg (#[.int .u32 (a : Int), .int .i64 p, .slice A n c, .int .i64 (ns : Int), .int .i64 wo, .int .i64 qu, .int .i64 (tr : Int)])) rfl (by kernel_rfl) (by kernel_rfl) (by kernel_rfl) (fun _ _ _ h => h) (yieldsIf_load_row (by rfl) 27 (.tmp 4) rfl gH rfl 27 _ (0, 0) _ (fun _ hS => ((hS).bk_ 1 rfl)) Tryz.underlying27 rfl cf_sz) hHeld ?_
  try simp only [Act.put, List.setIfInBounds_toArray, List.set_cons_zero, List.set_cons_succ]
  refine wpAnyH_ready (rs := [1]) (by kernel_rfl) (by simp) ?_
  refine AllReadyH.cons (o := ⟨some 8, _, _, _, _, _⟩) rfl (fun K0 hK => ?_) AllReadyH.nil
  go_simp
  refine ((snbegin_any _)).mono ?_
  rintro e w3 ⟨h3, rfl, L', K'⟩
  have Lb := L.lts
  replace L := L.over K'
  replace L := L.lists Lb L'
  clear Lb
  try dsimp only [lF, List.cons_append, List.nil_append] at L
  clear L'
  refine hK.out _ _ (L.less 4) (fun hHeld' => ?_)
  clear hHeld hK K0
  have hHeld := hHeld'
  clear hHeld'
  clear K'
  try simp only [Act.put, List.setIfInBounds_toArray, List.set_cons_zero, List.set_cons_succ]
  refine wpAnyH_ready (rs := [2]) (by kernel_rfl) (by simp) ?_
  refine AllReadyH.cons (o := ⟨some 9, _, _, _, _, _⟩) rfl (fun K0 hK => ?_) AllReadyH.nil
  go_simp
  refine ((snleft (sh := (ns : Int)) (wo := wo) (qu := qu) ha hM htr _)).mono ?_
  rintro e w4 ⟨rfl, K'⟩
  replace L := L.over K'
  refine hK.out _ _ (L.less 4) (fun hHeld' => ?_)
  clear hHeld hK K0
  have hHeld := hHeld'
  clear hHeld'
  clear K'
  try simp only [Act.put, List.setIfInBounds_toArray, List.set_cons_zero, List.set_cons_succ]
  refine wpAnyH_take (i := 3) (oi := ⟨some 6, _, _, _, _, _⟩) (v := .int .i64 (((2 * lv M * tr : Nat) : Int))) rfl (by kernel_rfl) (by kernel_rfl) (by kernel_rfl) (fun _ _ _ h => h) (Or.inl ⟨by rfl, ?_⟩) hHeld ?_
  · intro ww hS
    try dsimp only at hS
    go_simp
    try with_reducible rfl
    try omega
  try simp only [Act.put, List.setIfInBounds_toArray, List.set_cons_zero, List.set_cons_succ]
  refine wpAnyH_done (by kernel_rfl) ?_ _
  clear hHeld
  go_wp2
  go_ret
  exact ⟨rfl, L.K⟩
set_option maxHeartbeats 4000000 in
theorem pmost_to {f T v : Nat} {rv : Value} (hff : f = 110 ∨ f = 170 ∨ f = 180 ∨ f = 196 ∨ f = 107) (hm : ∀ w, (method 308 T rv "lodger/pool.most").run Tryz.prog w = .ok (f, rv) w) (hI : IS .u32 lo2 w A0 n0 c0 rq)
    (TA : ∀ w2, Below w.heap.size w w2 → IS .u32 lo2 w2 A0 n0 c0 rq → Hid (Calls Tryz.prog 38 #[.agg #[.int .u32 (a : Int), .int .i64 p, .slice A n c, .int .i64 (ns : Int), .int .i64 wo, .int .i64 qu, .int .i64 (tr : Int)], .agg #[.int .i64 k, .int .u32 (X : Int), .slice A0 n0 c0]] w2 fun e w' => e = .returned (.iface T rv) ∧ Below w2.heap.size w2 w'))
    (TK : ∀ w2, Below w.heap.size w w2 → IS .u32 lo2 w2 A0 n0 c0 rq → Hid (Calls Tryz.prog f #[rv, .agg #[.int .u32 (a : Int), .int .i64 p, .slice A n c, .int .i64 (ns : Int), .int .i64 wo, .int .i64 qu, .int .i64 (tr : Int)], .agg #[.int .i64 k, .int .u32 (X : Int), .slice A0 n0 c0]] w2 fun e w' => e = .returned (.int .i64 (v : Int)) ∧ Below w2.heap.size w2 w')) :
    Calls Tryz.prog 19 #[.agg #[.int .u32 (a : Int), .int .i64 p, .slice A n c, .int .i64 (ns : Int), .int .i64 wo, .int .i64 qu, .int .i64 (tr : Int)], .agg #[.int .i64 k, .int .u32 (X : Int), .slice A0 n0 c0]] w (fun e w' => e = .returned (.int .i64 (v : Int)) ∧ Below w.heap.size w w') := by
  go_enter Tryz.func19, Tryz.ntmps19
  go_upto_region 1 with (fail)
  have L := Loc.start w
  replace L := ((L).alloc #[.int .u32 (a : Int), .int .i64 p, .slice A n c, .int .i64 (ns : Int), .int .i64 wo, .int .i64 qu, .int .i64 (tr : Int)] 27).alloc #[.int .i64 k, .int .u32 (X : Int), .slice A0 n0 c0] 30
  try simp only [World.size_alloc] at L
  try dsimp only [nput] at L
  generalize ((w).alloc (.cells #[.int .u32 (a : Int), .int .i64 p, .slice A n c, .int .i64 (ns : Int), .int .i64 wo, .int .i64 qu, .int .i64 (tr : Int)] 27)).alloc (.cells #[.int .i64 k, .int .u32 (X : Int), .slice A0 n0 c0] 30) = w1 at L ⊢
  generalize w.heap.size + 1 = gQ at L ⊢
  generalize w.heap.size = gH at L ⊢
  rcases hff with rfl | rfl | rfl | rfl | rfl
  all_goals
    replace L := L.drew
    refine wp_region_held_drew (S := fun w' => Loc w w' [(gQ, 30, #[.int .i64 k, .int .u32 (X : Int), .slice A0 n0 c0]), (gH, 27, #[.int .u32 (a : Int), .int .i64 p, .slice A n c, .int .i64 (ns : Int), .int .i64 wo, .int .i64 qu, .int .i64 (tr : Int)])] []) (by kernel_rfl) L (fun hHeld => ?_)
    generalize w1.drew = v2 at hHeld L ⊢
    refine wpAnyH_take (i := 0) (oi := ⟨some 5, _, _, _, _, _⟩) (v := .agg (#[.int .u32 (a : Int), .int .i64 p, .slice A n c, .int .i64 (ns : Int), .int .i64 wo, .int .i64 qu, .int .i64 (tr : Int)])) rfl (by kernel_rfl) (by kernel_rfl) (by kernel_rfl) (fun _ _ _ h => h) (yieldsIf_load_row (by rfl) 27 (.tmp 2) rfl gH rfl 27 _ (0, 0) _ (fun _ hS => ((hS).bk_ 1 rfl)) Tryz.underlying27 rfl cf_sz) hHeld ?_
    try simp only [Act.put, List.setIfInBounds_toArray, List.set_cons_zero, List.set_cons_succ]
    refine wpAnyH_take (i := 1) (oi := ⟨some 6, _, _, _, _, _⟩) (v := .agg (#[.int .i64 k, .int .u32 (X : Int), .slice A0 n0 c0])) rfl (by kernel_rfl) (by kernel_rfl) (by kernel_rfl) (fun _ _ _ h => h) (yieldsIf_load_row (by rfl) 30 (.tmp 3) rfl gQ rfl 30 _ (0, 0) _ (fun _ hS => ((hS).bk_ 0 rfl)) Tryz.underlying30 rfl ak_sz) hHeld ?_
    try simp only [Act.put, List.setIfInBounds_toArray, List.set_cons_zero, List.set_cons_succ]
    refine wpAnyH_take (i := 3) (oi := ⟨some 8, _, _, _, _, _⟩) (v := .agg (#[.int .u32 (a : Int), .int .i64 p, .slice A n c, .int .i64 (ns : Int), .int .i64 wo, .int .i64 qu, .int .i64 (tr : Int)])) rfl (by kernel_rfl) (by kernel_rfl) (by kernel_rfl) (fun _ _ _ h => h) (yieldsIf_load_row (by rfl) 27 (.tmp 2) rfl gH rfl 27 _ (0, 0) _ (fun _ hS => ((hS).bk_ 1 rfl)) Tryz.underlying27 rfl cf_sz) hHeld ?_
    try simp only [Act.put, List.setIfInBounds_toArray, List.set_cons_zero, List.set_cons_succ]
    refine wpAnyH_take (i := 4) (oi := ⟨some 9, _, _, _, _, _⟩) (v := .agg (#[.int .i64 k, .int .u32 (X : Int), .slice A0 n0 c0])) rfl (by kernel_rfl) (by kernel_rfl) (by kernel_rfl) (fun _ _ _ h => h) (yieldsIf_load_row (by rfl) 30 (.tmp 3) rfl gQ rfl 30 _ (0, 0) _ (fun _ hS => ((hS).bk_ 0 rfl)) Tryz.underlying30 rfl ak_sz) hHeld ?_
    try simp only [Act.put, List.setIfInBounds_toArray, List.set_cons_zero, List.set_cons_succ]
    refine wpAnyH_ready (rs := [2]) (by kernel_rfl) (by simp) ?_
    refine AllReadyH.cons (o := ⟨some 7, _, _, _, _, _⟩) rfl (fun K0 hK => ?_) AllReadyH.nil
    go_simp
    refine ((TA _ L.K (hI.below L.K)).out).mono ?_
    rintro e w3 ⟨rfl, K'⟩
    replace L := L.over K'
    refine hK.out _ _ L (fun hHeld' => ?_)
    clear hHeld hK K0
    have hHeld := hHeld'
    clear hHeld'
    clear K'
    try simp only [Act.put, List.setIfInBounds_toArray, List.set_cons_zero, List.set_cons_succ]
    refine wpAnyH_ready (rs := [5]) (by kernel_rfl) (by simp) ?_
    refine AllReadyH.cons (o := ⟨some 10, _, _, _, _, _⟩) rfl (fun K0 hK => ?_) AllReadyH.nil
    go_simp
    refine ((TK _ L.K (hI.below L.K)).out).mono ?_
    rintro e w4 ⟨rfl, K'⟩
    replace L := L.over K'
    refine hK.out _ _ L (fun hHeld' => ?_)
    clear hHeld hK K0
    have hHeld := hHeld'
    clear hHeld'
    clear K'
    try simp only [Act.put, List.setIfInBounds_toArray, List.set_cons_zero, List.set_cons_succ]
    refine wpAnyH_take (i := 6) (oi := ⟨some 4, _, _, _, _, _⟩) (v := .int .i64 (v : Int)) rfl (by kernel_rfl) (by kernel_rfl) (by kernel_rfl) (fun _ _ _ h => h) (Or.inl ⟨by rfl, ?_⟩) hHeld ?_
    · intro ww hS
      try dsimp only at hS
      go_simp
      try with_reducible rfl
      try omega
    try simp only [Act.put, List.setIfInBounds_toArray, List.set_cons_zero, List.set_cons_succ]
    refine wpAnyH_done (by kernel_rfl) ?_ _
    clear hHeld
    go_wp2
    go_ret
    exact ⟨rfl, L.K⟩
theorem pmost (hW : Laid w) (ha : a < 4294967296) (hM : Much a p M) (h2 : ns ≤ 64) (htr : tr ≤ 8) (hZ : IS .i64 lz w A n c zs) (hn : n ≤ 60000) (hX : X < 4294967296) (hI : IS .u32 lo2 w A0 n0 c0 rq) (hn0 : n0 ≤ 60000) (hw : W32 rq) :
    Calls Tryz.prog 19 #[.agg #[.int .u32 (a : Int), .int .i64 p, .slice A n c, .int .i64 (ns : Int), .int .i64 wo, .int .i64 qu, .int .i64 (tr : Int)], .agg #[.int .i64 k, .int .u32 (X : Int), .slice A0 n0 c0]] w (fun e w' => e = .returned (.int .i64 ((mostN a M ns tr zs k X rq : Nat) : Int)) ∧ Below w.heap.size w w') := by
  by_cases hE : askE a M zs k (X : Int) rq ≠ 0
  · have e0 : mostN a M ns tr zs k X rq = 0 := by unfold mostN; rw [if_pos (.inl hE)]
    rw [e0]
    exact pmost_to (T := 101) (f := 107) (v := 0) (by decide) (fun _ => by kernel_rfl) hI (fun w K I => Lib.hid (pask_no (hW.below K) ha hM (hZ.below K) hn hX I hn0 hw hE)) (fun w K I => Lib.hid (pmo_e _))
  · have he : askE a M zs k (X : Int) rq = 0 := Decidable.byContradiction fun h => hE h
    by_cases h7 : k = 7
    · subst h7
      have e0 : mostN a M ns tr zs 7 X rq = 0 := by unfold mostN; rw [if_pos (.inr rfl)]
      rw [e0]
      exact pmost_to (T := 101) (f := 107) (v := 0) (by decide) (fun _ => by kernel_rfl) hI (fun w K I => Lib.hid (pask_yes (hW.below K) ha hM (hZ.below K) hn hX I hn0 hw he (fun w => Lib.hid (pof_7 w)))) (fun w K I => Lib.hid (pmo_e _))
    obtain ⟨k1, k7, k4, -⟩ := askE_ok he
    have hmo : mostN a M ns tr zs k X rq = if k = 1 then ns * (tv M + 3) + 2 * lv M + 6 else if k = 4 then 6 * rq.length else if k = 6 then 2 * lv M * tr else 6 := by unfold mostN; rw [if_neg (by rintro (h | h); exact h he; exact h7 h)]
    rw [hmo]
    by_cases q1 : k = 1
    · subst q1
      rw [if_pos rfl]
      exact pmost_to (T := 106) (f := 110) (v := ns * (tv M + 3) + 2 * lv M + 6) (by decide) (fun _ => by kernel_rfl) hI (fun w K I => Lib.hid (pask_yes (hW.below K) ha hM (hZ.below K) hn hX I hn0 hw he (fun w => Lib.hid (pof_1 w)))) (fun w K I => Lib.hid (pmo_g ha hM h2))
    · rw [if_neg q1]
      by_cases q4 : k = 4
      · subst q4
        rw [if_pos rfl]
        have hl := hI.len
        exact pmost_to (T := 108) (f := 180) (v := 6 * rq.length) (by decide) (fun _ => by kernel_rfl) hI (fun w K I => Lib.hid (pask_yes (hW.below K) ha hM (hZ.below K) hn hX I hn0 hw he (fun w => Lib.hid (pof_4 w)))) (fun w K I => Lib.hid (pmo_b (hW.below K) I hn0 (by rw [nmI_all]) (by omega)))
      · rw [if_neg q4]
        by_cases q6 : k = 6
        · subst q6
          rw [if_pos rfl]
          exact pmost_to (T := 109) (f := 196) (v := 2 * lv M * tr) (by decide) (fun _ => by kernel_rfl) hI (fun w K I => Lib.hid (pask_yes (hW.below K) ha hM (hZ.below K) hn hX I hn0 hw he (fun w => Lib.hid (pof_6 w)))) (fun w K I => Lib.hid (pmo_s ha hM (by omega)))
        · rw [if_neg q6]
          by_cases q3 : k = 3
          · exact pmost_to (T := 108) (f := 180) (v := 6) (by decide) (fun _ => by kernel_rfl) hI (fun w K I => Lib.hid (pask_yes (hW.below K) ha hM (hZ.below K) hn hX I hn0 hw he (fun w => Lib.hid (q3 ▸ pof_3 w)))) (fun w K I => Lib.hid (pmo_b (q := 1) (hW.below K) I hn0 (by rw [nmI_one (.inr (.inl q3))]; rfl) (by omega)))
          · have q2 : k = 2 ∨ k = 5 := by omega
            exact pmost_to (T := 107) (f := 170) (v := 6) (by decide) (fun _ => by kernel_rfl) hI (fun w K I => Lib.hid (pask_yes (hW.below K) ha hM (hZ.below K) hn hX I hn0 hw he (fun w => Lib.hid (by rcases q2 with rfl | rfl; exact pof_2 w; exact pof_5 w)))) (fun w K I => Lib.hid (pmo_x))
end
set_option maxHeartbeats 4000000 in
theorem poolSays : PoolSays where
  beg hW ha hM h1 htr hZ hn hd0 hd1 hX hI hn0 hw := pbeg hW ha hM h1 htr hZ hn hd0 hd1 hX hI hn0 hw
  stp ha hM h1 h2 htr hN hZ hn hr hq hI hY hU hL hp := pstep ha hM h1 h2 htr hN hZ hn hr hq hI hY hU hL hp
  tol hL h0 h1 h2 h3 := ptol hL h0 h1 h2 h3
  mst hW ha hM h2 htr hZ hn hX hI hn0 hw := pmost hW ha hM h2 htr hZ hn hX hI hn0 hw
  don hU hm hL h0 h1 h2 h3 hp hk := pdon hm hU hL h0 h1 h2 h3 hp hk
end Go.Proofs.YtfhefofkhmkcnaaGreatDoor
