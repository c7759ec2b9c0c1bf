/-
  What the functions that these laws call answer, and what follows of it; conditions: those that each theorem names. In this file: GrantRef, WordCellsNew.
-/
import Derived.Test.YtacgjaohfcoigaaGreatEy10
/-
  What the document's Small, Most, Disturb and Begin of layer 17, and grant.Begin, answer. Conditions: a block that may be.
-/
namespace Go.Proofs.YtacgjaohfcoigaaGreat
set_option maxRecDepth 100000
set_option maxRecDepth 100000
open Go.RowKit
set_option linter.unusedVariables false
def RetW (P : Prop) (w : World) (e : Ending) (w' : World) : Prop := ∃ b, e = .returned (.bool b) ∧ (b = true → P) ∧ Below w.heap.size w w'
/-- What is known of a configuration that may be, of a small block. -/
structure Cg (a : Nat) (p : Int) (n : Nat) (zs : List Int) (sh : Int) (M ns : Nat) : Prop where
  much : Much a p M
  few : n ≤ 64
  ris : risB M 0 zs = true
  sml : M ≤ 256
  ns_ : sh = (ns : Int)
  ns1 : 1 ≤ ns
  ns2 : ns ≤ 64
theorem wrap_mul (x k : Nat) : ∃ W : Nat, IntKind.u64.wrap ((x : Int) * (k : Int)) = (W : Int) ∧ W < U64 :=
  ⟨x * k % 18446744073709551616, by rw [IntKind.wrap_u64, ← Int.natCast_mul]; exact (Int.natCast_emod _ _).symm, Nat.mod_lt _ (by decide)⟩
/-- What somebody else does. -/
def DistR (M : Nat) (zs : List Int) (ys ys' : List Nat) : Prop :=
  (∃ o, o < M ∧ hasB zs (o : Int) = false ∧ (gt ys (o / 32)).testBit (o % 32) = true ∧ ys' = ys.set (o / 32) (drp (gt ys (o / 32)) (o % 32))) ∨
  (∃ o, o < M ∧ hasB zs (o : Int) = false ∧ (gt ys (o / 32)).testBit (o % 32) = false ∧ ys' = ys.set (o / 32) (clm (gt ys (o / 32)) (o % 32))) ∨
  (∃ i W, lv M ≤ i ∧ W < U64 ∧ ys' = ys.set i W) ∨ ys' = ys
def RetD (M : Nat) (zs : List Int) (ys : List Nat) (m : Nat) (B0 : Option Addr) (w : World) (e : Ending) (w' : World) : Prop :=
  ∃ B d ys', e = .returned (.slice B m d) ∧ US w' B m d ys' ∧ DistR M zs ys ys' ∧ (∀ k, k < w.heap.size → Apart k B0 → Apart k B) ∧ Below w.heap.size w w'
theorem retD_new {M : Nat} {zs : List Int} {ys ys2 : List Nat} {m : Nat} {B0 : Option Addr} {w w' : World} {g d : Nat} (U : US w' (some ⟨g, 0, none⟩) m d ys2) (hD : DistR M zs ys ys2) (hg : w.heap.size ≤ g) (K : Below w.heap.size w w') : RetD M zs ys m B0 w (.returned (.slice (some ⟨g, 0, none⟩) m d)) w' :=
  ⟨_, _, ys2, rfl, U, hD, fun k hk _ b o e => by injection e with e; injection e with e1; omega, K⟩
section
variable {w w1 : World} {lo a m d D M ns N : Nat} {p sh wo qu tr : Int} {A B : Option Addr} {n c : Nat} {zs : List Int} {sn ys : List Nat} {h : Hd} {s : Sc}
set_option maxRecDepth 100000 in
set_option maxHeartbeats 2000000 in
theorem small_may (ha : a < 4294967296) (h0 : IS .i64 lo w A n c zs) (hb : confB a p n zs sh wo qu tr = false) :
    Calls Tryz.prog 14 #[.agg #[.int .u32 (a : Int), .int .i64 p, .slice A n c, .int .i64 sh, .int .i64 wo, .int .i64 qu, .int .i64 tr]] w (RetW (∃ M ns, Cg a p n zs sh M ns) w) := by
  go_enter Tryz.func14, Tryz.ntmps14
  go_upto_region 1 with (fail)
  have L := Loc.start w
  replace L := (L).alloc #[.int .u32 (a : Int), .int .i64 p, .slice A n c, .int .i64 sh, .int .i64 wo, .int .i64 qu, .int .i64 tr] 27
  try simp only [World.size_alloc] at L
  try dsimp only [nput] at L
  generalize (w).alloc (.cells #[.int .u32 (a : Int), .int .i64 p, .slice A n c, .int .i64 sh, .int .i64 wo, .int .i64 qu, .int .i64 tr] 27) = w1 at L ⊢
  generalize w.heap.size = gH at L ⊢
  go_wp2_with (refine wpList_load_row rfl 27 (.tmp 1) rfl gH rfl _ _ (0, 0) _ (L.bk_ 0 rfl) Tryz.underlying27 rfl cf_sz ?_)
  refine (rmay_is ha (h0.below L.K) hb).mono ?_
  rintro e w2 ⟨rfl, K'⟩
  replace L := L.over K'
  go_wp2
  go_ret
  exact ⟨false, rfl, (fun e => by cases e), L.K⟩
set_option maxRecDepth 100000 in
set_option maxHeartbeats 2000000 in
theorem small_no (ha : a < 4294967296) (h0 : IS .i64 lo w A n c zs) (hb : confB a p n zs sh wo qu tr = true) (hC : Much a p M) (hm : ¬ M ≤ 256) :
    Calls Tryz.prog 14 #[.agg #[.int .u32 (a : Int), .int .i64 p, .slice A n c, .int .i64 sh, .int .i64 wo, .int .i64 qu, .int .i64 tr]] w (RetW (∃ M ns, Cg a p n zs sh M ns) w) := by
  have hM : Much a p M := hC
  have e2 : decide ((M : Int) ≤ 256) = false := by simp only [decide_eq_false_iff_not]; omega
  replace hC := Lib.hid hC
  go_enter Tryz.func14, Tryz.ntmps14
  go_upto_region 1 with (fail)
  have L := Loc.start w
  replace L := (L).alloc #[.int .u32 (a : Int), .int .i64 p, .slice A n c, .int .i64 sh, .int .i64 wo, .int .i64 qu, .int .i64 tr] 27
  try simp only [World.size_alloc] at L
  try dsimp only [nput] at L
  generalize (w).alloc (.cells #[.int .u32 (a : Int), .int .i64 p, .slice A n c, .int .i64 sh, .int .i64 wo, .int .i64 qu, .int .i64 tr] 27) = w1 at L ⊢
  generalize w.heap.size = gH at L ⊢
  go_wp2_with (refine wpList_load_row rfl 27 (.tmp 1) rfl gH rfl _ _ (0, 0) _ (L.bk_ 0 rfl) Tryz.underlying27 rfl cf_sz ?_)
  refine (rmay_is ha (h0.below L.K) hb).mono ?_
  rintro e w2 ⟨rfl, K'⟩
  replace L := L.over K'
  have H_0 := L.at_ 0 0 rfl (v := .int .u32 (a : Int)) rfl
  have H_1 := L.at_ 0 1 rfl (v := .int .i64 p) rfl
  have H_z := L.lt 0 rfl
  go_wp2_with fail
  refine (rmany_yes hM).mono ?_
  rintro e w3 ⟨rfl, K'⟩
  clear H_0 H_1 H_z
  replace L := L.over K'
  go_wp2
  go_ret
  exact ⟨false, rfl, (fun e => by cases e), L.K⟩
set_option maxRecDepth 100000 in
set_option maxHeartbeats 2000000 in
theorem small_yes (ha : a < 4294967296) (h0 : IS .i64 lo w A n c zs) (hb : confB a p n zs sh wo qu tr = true) (hC : Cg a p n zs sh M ns) (hm : M ≤ 256) :
    Calls Tryz.prog 14 #[.agg #[.int .u32 (a : Int), .int .i64 p, .slice A n c, .int .i64 sh, .int .i64 wo, .int .i64 qu, .int .i64 tr]] w (RetW (∃ M ns, Cg a p n zs sh M ns) w) := by
  have hM : Much a p M := hC.much
  have e2 : decide ((M : Int) ≤ 256) = true := by simp; omega
  replace hC := Lib.hid hC
  go_enter Tryz.func14, Tryz.ntmps14
  go_upto_region 1 with (fail)
  have L := Loc.start w
  replace L := (L).alloc #[.int .u32 (a : Int), .int .i64 p, .slice A n c, .int .i64 sh, .int .i64 wo, .int .i64 qu, .int .i64 tr] 27
  try simp only [World.size_alloc] at L
  try dsimp only [nput] at L
  generalize (w).alloc (.cells #[.int .u32 (a : Int), .int .i64 p, .slice A n c, .int .i64 sh, .int .i64 wo, .int .i64 qu, .int .i64 tr] 27) = w1 at L ⊢
  generalize w.heap.size = gH at L ⊢
  go_wp2_with (refine wpList_load_row rfl 27 (.tmp 1) rfl gH rfl _ _ (0, 0) _ (L.bk_ 0 rfl) Tryz.underlying27 rfl cf_sz ?_)
  refine (rmay_is ha (h0.below L.K) hb).mono ?_
  rintro e w2 ⟨rfl, K'⟩
  replace L := L.over K'
  have H_0 := L.at_ 0 0 rfl (v := .int .u32 (a : Int)) rfl
  have H_1 := L.at_ 0 1 rfl (v := .int .i64 p) rfl
  have H_z := L.lt 0 rfl
  go_wp2_with fail
  refine (rmany_yes hM).mono ?_
  rintro e w3 ⟨rfl, K'⟩
  clear H_0 H_1 H_z
  replace L := L.over K'
  go_wp2
  go_ret
  exact ⟨true, rfl, (fun _ => ⟨M, ns, hC.out⟩), L.K⟩
theorem small_any (ha : a < 4294967296) (h0 : IS .i64 lo w A n c zs) :
    Calls Tryz.prog 14 #[.agg #[.int .u32 (a : Int), .int .i64 p, .slice A n c, .int .i64 sh, .int .i64 wo, .int .i64 qu, .int .i64 tr]] w (RetW (∃ M ns, Cg a p n zs sh M ns) w) := by
  cases hb : confB a p n zs sh wo qu tr with
  | false => exact small_may ha h0 hb
  | true =>
    obtain ⟨h1, h2, h3, h4, h5, _⟩ := confB_no hb
    have hM := Much.of h1
    by_cases hm : 2 ^ (32 - p.toNat) ≤ 256
    · exact small_yes ha h0 hb (M := 2 ^ (32 - p.toNat)) (ns := sh.toNat) ⟨hM, h2, by rw [← hM.manyI]; exact h3, hm, by omega, by omega, by omega⟩ hm
    · exact small_no ha h0 hb hM hm
set_option maxRecDepth 100000 in
set_option maxHeartbeats 2000000 in
theorem dist_drop (hD : D < 4294967296) (hC : Cg a p n zs (ns : Int) M ns) (h0 : IS .i64 lo w A n c zs) (hY : YI M zs ys) (hU : US w B m d ys) (hlt : D % 8 < 4) (hhe : hasB zs ((D / 8 % M : Nat) : Int) = false) (hbt : (gt ys (D / 8 % M / 32)).testBit (D / 8 % M % 32) = true) :
    Calls Tryz.prog 10 #[.agg #[.int .u32 (a : Int), .int .i64 p, .slice A n c, .int .i64 (ns : Int), .int .i64 wo, .int .i64 qu, .int .i64 tr], .slice B m d, .int .u32 (D : Int)] w (RetD M zs ys m B w) := by
  have hM := hC.much
  have hn9 := hC.few
  have hMp := hM.pos
  have hM9 := hC.sml
  have hml := hU.len
  have hyl := hY.len
  have hm := hM.most
  have hl3 := lv_le hm
  have ht3 := tv_le hm
  have hm6 : m ≤ 65536 := by omega
  have hm0 : 0 < m := by omega
  obtain ⟨q, hq⟩ : ∃ x, x = D / 8 := ⟨_, rfl⟩
  obtain ⟨r, hr⟩ : ∃ x, x = D % 8 := ⟨_, rfl⟩
  obtain ⟨o, ho⟩ : ∃ x, x = q % M := ⟨_, rfl⟩
  have hoM : o < M := by rw [ho]; exact Nat.mod_lt _ hMp
  have a1 : (D : Int) / 8 = (q : Int) := by omega
  have a2 : (D : Int).tdiv 8 = (q : Int) := by rw [Int.tdiv_eq_ediv_of_nonneg (by omega)]; omega
  have a3 : (D : Int) % 8 = (r : Int) := by omega
  have a4 : (D : Int).tmod 8 = (r : Int) := by rw [Int.tmod_eq_emod_of_nonneg (by omega)]; omega
  have a5 : (q : Int) % (M : Int) = (o : Int) := by rw [ho]; exact (Int.natCast_emod q M).symm
  have a6 : (q : Int).tmod (M : Int) = (o : Int) := by rw [Int.tmod_eq_emod_of_nonneg (by omega)]; exact a5
  have hM00 : ¬ ((M : Int) = 0) := by omega
  have TMy := fun w => Lib.hid (rmany_yes (w := w) hM)
  have c1 : decide ((r : Int) < 4) = true := by simp; omega
  rw [← hq, ← ho] at hhe hbt
  have THe := fun w (h0 : IS .i64 lo w A n c zs) => Lib.hid (rheld_is (w := w) (a := a) (p := p) (sh := (ns : Int)) (wo := wo) (qu := qu) (tr := tr) h0 (by omega) hhe)
  obtain ⟨i, hi⟩ : ∃ x, x = o / 32 := ⟨_, rfl⟩
  obtain ⟨b, hb⟩ : ∃ x, x = o % 32 := ⟨_, rfl⟩
  have b1 : (o : Int) / 32 = (i : Int) := by omega
  have b2 : (o : Int).tdiv 32 = (i : Int) := by rw [Int.tdiv_eq_ediv_of_nonneg (by omega)]; omega
  have b3 : (o : Int) % 32 = (b : Int) := by omega
  have b4 : (o : Int).tmod 32 = (b : Int) := by rw [Int.tmod_eq_emod_of_nonneg (by omega)]; omega
  have hil : i < lv M := by unfold lv; omega
  have him : i < m := by omega
  have him2 : (i : Int) < (m : Int) := by omega
  have hb32 : b < 32 := by omega
  obtain ⟨bb, oo, hBe, hbb, hcc⟩ := hU.get him
  subst hBe
  obtain ⟨x, hx⟩ : ∃ x, x = gt ys i := ⟨_, rfl⟩
  have hx64 : x < 18446744073709551616 := by rw [hx]; exact gt_lt hY.fit _
  rw [← hi, ← hb, ← hx] at hbt; rw [← hx] at hcc
  have hDR : DistR M zs ys (ys.set i (drp x b)) := .inl ⟨o, hoM, hhe, by rw [← hi, ← hb, ← hx]; exact hbt, by rw [← hi, ← hb, ← hx]⟩
  have THb := fun w => Lib.hid (rhas_any x b hx64 (by omega) w)
  simp only [hbt] at THb
  have TCl := fun w => Lib.hid (rdrop_any x b hx64 (by omega) w)
  have hy64 : (drp x b) < U64 := drp_lt _ _
  generalize (drp x b) = y at TCl hy64 hDR
  have TSe : ∀ w, US w (some ⟨bb, oo, none⟩) m d ys → Hid (Calls Tryz.prog 33 #[.slice (some ⟨bb, oo, none⟩) m d, .int .i64 (i : Nat), .int .u64 (y : Nat)] w (RetSM m (ys.set i y) w)) := fun w U => by have := crset_new U (i : Int) hm6 hy64; rw [stI_nat] at this; exact this
  replace hDR := Lib.hid hDR
  clear hbt hhe hx hi hb ho hq hr hlt hoM hil hY hyl hC
  go_enter Tryz.func10, Tryz.ntmps10
  go_upto_region 1 with (fail)
  have L := Loc.start w
  replace L := (L).alloc #[.int .u32 (a : Int), .int .i64 p, .slice A n c, .int .i64 (ns : Int), .int .i64 wo, .int .i64 qu, .int .i64 tr] 27
  try simp only [World.size_alloc] at L
  try dsimp only [nput] at L
  generalize (w).alloc (.cells #[.int .u32 (a : Int), .int .i64 p, .slice A n c, .int .i64 (ns : Int), .int .i64 wo, .int .i64 qu, .int .i64 tr] 27) = w1 at L ⊢
  generalize w.heap.size = gH at L ⊢
  have H_0 := L.at_ 0 0 rfl (v := .int .u32 (a : Int)) rfl
  have H_1 := L.at_ 0 1 rfl (v := .int .i64 p) rfl
  have H_z := L.lt 0 rfl
  go_wp2_with fail
  refine ((TMy _).out).mono ?_
  rintro e w2 ⟨rfl, K'⟩
  clear H_0 H_1 H_z
  replace L := L.over K'
  go_wp2_with (refine wpList_load_want (by rfl) 27 (.tmp 3) rfl gH rfl _ _ (0, 0) _ (L.bk_ 0 rfl) Tryz.underlying27 rfl cf_sz ?_)
  refine ((THe _ (h0.below L.K)).out).mono ?_
  rintro e w3 ⟨rfl, K'⟩
  replace L := L.over K'
  have X := (L.K.cell (p := ⟨bb, oo + i, none⟩) hbb).trans hcc
  go_wp2_with fail
  refine ((THb _).out).mono ?_
  rintro e w' ⟨rfl, rfl⟩
  clear X
  go_wp2_with fail
  refine ((TCl _).out).mono ?_
  rintro e w' ⟨rfl, rfl⟩
  go_wp2_with fail
  have KS := L.K.size
  refine ((TSe _ (hU.below L.K)).out).mono ?_
  rintro e w4 ⟨gS, dS, rfl, U, hgS, K'⟩
  have Lb := L.lts
  replace L := L.over K'
  replace L := L.us_av (fun i b e b' o e' => by injection e' with e'; injection e' with e1; have := Lb i b e; omega) U
  clear Lb
  try dsimp only [lF, List.cons_append, List.nil_append] at L
  clear U
  go_wp2
  go_ret
  exact retD_new (L.us_ 0 rfl) hDR.out (Nat.le_trans KS hgS) L.K
set_option maxRecDepth 100000 in
set_option maxHeartbeats 2000000 in
theorem dist_claim (hD : D < 4294967296) (hC : Cg a p n zs (ns : Int) M ns) (h0 : IS .i64 lo w A n c zs) (hY : YI M zs ys) (hU : US w B m d ys) (hlt : D % 8 < 4) (hhe : hasB zs ((D / 8 % M : Nat) : Int) = false) (hbt : (gt ys (D / 8 % M / 32)).testBit (D / 8 % M % 32) = false) :
    Calls Tryz.prog 10 #[.agg #[.int .u32 (a : Int), .int .i64 p, .slice A n c, .int .i64 (ns : Int), .int .i64 wo, .int .i64 qu, .int .i64 tr], .slice B m d, .int .u32 (D : Int)] w (RetD M zs ys m B w) := by
  have hM := hC.much
  have hn9 := hC.few
  have hMp := hM.pos
  have hM9 := hC.sml
  have hml := hU.len
  have hyl := hY.len
  have hm := hM.most
  have hl3 := lv_le hm
  have ht3 := tv_le hm
  have hm6 : m ≤ 65536 := by omega
  have hm0 : 0 < m := by omega
  obtain ⟨q, hq⟩ : ∃ x, x = D / 8 := ⟨_, rfl⟩
  obtain ⟨r, hr⟩ : ∃ x, x = D % 8 := ⟨_, rfl⟩
  obtain ⟨o, ho⟩ : ∃ x, x = q % M := ⟨_, rfl⟩
  have hoM : o < M := by rw [ho]; exact Nat.mod_lt _ hMp
  have a1 : (D : Int) / 8 = (q : Int) := by omega
  have a2 : (D : Int).tdiv 8 = (q : Int) := by rw [Int.tdiv_eq_ediv_of_nonneg (by omega)]; omega
  have a3 : (D : Int) % 8 = (r : Int) := by omega
  have a4 : (D : Int).tmod 8 = (r : Int) := by rw [Int.tmod_eq_emod_of_nonneg (by omega)]; omega
  have a5 : (q : Int) % (M : Int) = (o : Int) := by rw [ho]; exact (Int.natCast_emod q M).symm
  have a6 : (q : Int).tmod (M : Int) = (o : Int) := by rw [Int.tmod_eq_emod_of_nonneg (by omega)]; exact a5
  have hM00 : ¬ ((M : Int) = 0) := by omega
  have TMy := fun w => Lib.hid (rmany_yes (w := w) hM)
  have c1 : decide ((r : Int) < 4) = true := by simp; omega
  rw [← hq, ← ho] at hhe hbt
  have THe := fun w (h0 : IS .i64 lo w A n c zs) => Lib.hid (rheld_is (w := w) (a := a) (p := p) (sh := (ns : Int)) (wo := wo) (qu := qu) (tr := tr) h0 (by omega) hhe)
  obtain ⟨i, hi⟩ : ∃ x, x = o / 32 := ⟨_, rfl⟩
  obtain ⟨b, hb⟩ : ∃ x, x = o % 32 := ⟨_, rfl⟩
  have b1 : (o : Int) / 32 = (i : Int) := by omega
  have b2 : (o : Int).tdiv 32 = (i : Int) := by rw [Int.tdiv_eq_ediv_of_nonneg (by omega)]; omega
  have b3 : (o : Int) % 32 = (b : Int) := by omega
  have b4 : (o : Int).tmod 32 = (b : Int) := by rw [Int.tmod_eq_emod_of_nonneg (by omega)]; omega
  have hil : i < lv M := by unfold lv; omega
  have him : i < m := by omega
  have him2 : (i : Int) < (m : Int) := by omega
  have hb32 : b < 32 := by omega
  obtain ⟨bb, oo, hBe, hbb, hcc⟩ := hU.get him
  subst hBe
  obtain ⟨x, hx⟩ : ∃ x, x = gt ys i := ⟨_, rfl⟩
  have hx64 : x < 18446744073709551616 := by rw [hx]; exact gt_lt hY.fit _
  rw [← hi, ← hb, ← hx] at hbt; rw [← hx] at hcc
  have hDR : DistR M zs ys (ys.set i (clm x b)) := .inr (.inl ⟨o, hoM, hhe, by rw [← hi, ← hb, ← hx]; exact hbt, by rw [← hi, ← hb, ← hx]⟩)
  have THb := fun w => Lib.hid (rhas_any x b hx64 (by omega) w)
  simp only [hbt] at THb
  have TCl := fun w => Lib.hid (rclaim_any x b hx64 (by omega) w)
  have hy64 : (clm x b) < U64 := clm_lt _ _
  generalize (clm x b) = y at TCl hy64 hDR
  have TSe : ∀ w, US w (some ⟨bb, oo, none⟩) m d ys → Hid (Calls Tryz.prog 33 #[.slice (some ⟨bb, oo, none⟩) m d, .int .i64 (i : Nat), .int .u64 (y : Nat)] w (RetSM m (ys.set i y) w)) := fun w U => by have := crset_new U (i : Int) hm6 hy64; rw [stI_nat] at this; exact this
  replace hDR := Lib.hid hDR
  clear hbt hhe hx hi hb ho hq hr hlt hoM hil hY hyl hC
  go_enter Tryz.func10, Tryz.ntmps10
  go_upto_region 1 with (fail)
  have L := Loc.start w
  replace L := (L).alloc #[.int .u32 (a : Int), .int .i64 p, .slice A n c, .int .i64 (ns : Int), .int .i64 wo, .int .i64 qu, .int .i64 tr] 27
  try simp only [World.size_alloc] at L
  try dsimp only [nput] at L
  generalize (w).alloc (.cells #[.int .u32 (a : Int), .int .i64 p, .slice A n c, .int .i64 (ns : Int), .int .i64 wo, .int .i64 qu, .int .i64 tr] 27) = w1 at L ⊢
  generalize w.heap.size = gH at L ⊢
  have H_0 := L.at_ 0 0 rfl (v := .int .u32 (a : Int)) rfl
  have H_1 := L.at_ 0 1 rfl (v := .int .i64 p) rfl
  have H_z := L.lt 0 rfl
  go_wp2_with fail
  refine ((TMy _).out).mono ?_
  rintro e w2 ⟨rfl, K'⟩
  clear H_0 H_1 H_z
  replace L := L.over K'
  go_wp2_with (refine wpList_load_want (by rfl) 27 (.tmp 3) rfl gH rfl _ _ (0, 0) _ (L.bk_ 0 rfl) Tryz.underlying27 rfl cf_sz ?_)
  refine ((THe _ (h0.below L.K)).out).mono ?_
  rintro e w3 ⟨rfl, K'⟩
  replace L := L.over K'
  have X := (L.K.cell (p := ⟨bb, oo + i, none⟩) hbb).trans hcc
  go_wp2_with fail
  refine ((THb _).out).mono ?_
  rintro e w' ⟨rfl, rfl⟩
  clear X
  go_wp2_with fail
  refine ((TCl _).out).mono ?_
  rintro e w' ⟨rfl, rfl⟩
  go_wp2_with fail
  have KS := L.K.size
  refine ((TSe _ (hU.below L.K)).out).mono ?_
  rintro e w4 ⟨gS, dS, rfl, U, hgS, K'⟩
  have Lb := L.lts
  replace L := L.over K'
  replace L := L.us_av (fun i b e b' o e' => by injection e' with e'; injection e' with e1; have := Lb i b e; omega) U
  clear Lb
  try dsimp only [lF, List.cons_append, List.nil_append] at L
  clear U
  go_wp2
  go_ret
  exact retD_new (L.us_ 0 rfl) hDR.out (Nat.le_trans KS hgS) L.K
set_option maxRecDepth 100000 in
set_option maxHeartbeats 2000000 in
theorem dist_held (hD : D < 4294967296) (hC : Cg a p n zs (ns : Int) M ns) (h0 : IS .i64 lo w A n c zs) (hY : YI M zs ys) (hU : US w B m d ys) (hlt : D % 8 < 4) (hhe : hasB zs ((D / 8 % M : Nat) : Int) = true) :
    Calls Tryz.prog 10 #[.agg #[.int .u32 (a : Int), .int .i64 p, .slice A n c, .int .i64 (ns : Int), .int .i64 wo, .int .i64 qu, .int .i64 tr], .slice B m d, .int .u32 (D : Int)] w (RetD M zs ys m B w) := by
  have hM := hC.much
  have hn9 := hC.few
  have hMp := hM.pos
  have hM9 := hC.sml
  have hml := hU.len
  have hyl := hY.len
  have hm := hM.most
  have hl3 := lv_le hm
  have ht3 := tv_le hm
  have hm6 : m ≤ 65536 := by omega
  have hm0 : 0 < m := by omega
  obtain ⟨q, hq⟩ : ∃ x, x = D / 8 := ⟨_, rfl⟩
  obtain ⟨r, hr⟩ : ∃ x, x = D % 8 := ⟨_, rfl⟩
  obtain ⟨o, ho⟩ : ∃ x, x = q % M := ⟨_, rfl⟩
  have hoM : o < M := by rw [ho]; exact Nat.mod_lt _ hMp
  have a1 : (D : Int) / 8 = (q : Int) := by omega
  have a2 : (D : Int).tdiv 8 = (q : Int) := by rw [Int.tdiv_eq_ediv_of_nonneg (by omega)]; omega
  have a3 : (D : Int) % 8 = (r : Int) := by omega
  have a4 : (D : Int).tmod 8 = (r : Int) := by rw [Int.tmod_eq_emod_of_nonneg (by omega)]; omega
  have a5 : (q : Int) % (M : Int) = (o : Int) := by rw [ho]; exact (Int.natCast_emod q M).symm
  have a6 : (q : Int).tmod (M : Int) = (o : Int) := by rw [Int.tmod_eq_emod_of_nonneg (by omega)]; exact a5
  have hM00 : ¬ ((M : Int) = 0) := by omega
  have TMy := fun w => Lib.hid (rmany_yes (w := w) hM)
  have c1 : decide ((r : Int) < 4) = true := by simp; omega
  rw [← hq, ← ho] at hhe
  have THe := fun w (h0 : IS .i64 lo w A n c zs) => Lib.hid (rheld_is (w := w) (a := a) (p := p) (sh := (ns : Int)) (wo := wo) (qu := qu) (tr := tr) h0 (by omega) hhe)
  have c2 : ((r : Int) == 4) = false := by simp; omega
  clear ho hq hr hlt hoM hY hC hyl hhe
  go_enter Tryz.func10, Tryz.ntmps10
  go_upto_region 1 with (fail)
  have L := Loc.start w
  replace L := (L).alloc #[.int .u32 (a : Int), .int .i64 p, .slice A n c, .int .i64 (ns : Int), .int .i64 wo, .int .i64 qu, .int .i64 tr] 27
  try simp only [World.size_alloc] at L
  try dsimp only [nput] at L
  generalize (w).alloc (.cells #[.int .u32 (a : Int), .int .i64 p, .slice A n c, .int .i64 (ns : Int), .int .i64 wo, .int .i64 qu, .int .i64 tr] 27) = w1 at L ⊢
  generalize w.heap.size = gH at L ⊢
  have H_0 := L.at_ 0 0 rfl (v := .int .u32 (a : Int)) rfl
  have H_1 := L.at_ 0 1 rfl (v := .int .i64 p) rfl
  have H_z := L.lt 0 rfl
  go_wp2_with fail
  refine ((TMy _).out).mono ?_
  rintro e w2 ⟨rfl, K'⟩
  clear H_0 H_1 H_z
  replace L := L.over K'
  go_wp2_with (refine wpList_load_want (by rfl) 27 (.tmp 3) rfl gH rfl _ _ (0, 0) _ (L.bk_ 0 rfl) Tryz.underlying27 rfl cf_sz ?_)
  refine ((THe _ (h0.below L.K)).out).mono ?_
  rintro e w3 ⟨rfl, K'⟩
  replace L := L.over K'
  go_wp2
  go_ret
  exact ⟨_, _, ys, rfl, hU.below L.K, .inr (.inr (.inr rfl)), fun k _ h => h, L.K⟩
set_option maxRecDepth 100000 in
set_option maxHeartbeats 2000000 in
theorem dist_sum (hD : D < 4294967296) (hC : Cg a p n zs (ns : Int) M ns) (h0 : IS .i64 lo w A n c zs) (hY : YI M zs ys) (hU : US w B m d ys) (hlt : D % 8 = 4) :
    Calls Tryz.prog 10 #[.agg #[.int .u32 (a : Int), .int .i64 p, .slice A n c, .int .i64 (ns : Int), .int .i64 wo, .int .i64 qu, .int .i64 tr], .slice B m d, .int .u32 (D : Int)] w (RetD M zs ys m B w) := by
  have hM := hC.much
  have hn9 := hC.few
  have hMp := hM.pos
  have hM9 := hC.sml
  have hml := hU.len
  have hyl := hY.len
  have hm := hM.most
  have hl3 := lv_le hm
  have ht3 := tv_le hm
  have hm6 : m ≤ 65536 := by omega
  have hm0 : 0 < m := by omega
  obtain ⟨q, hq⟩ : ∃ x, x = D / 8 := ⟨_, rfl⟩
  obtain ⟨r, hr⟩ : ∃ x, x = D % 8 := ⟨_, rfl⟩
  obtain ⟨o, ho⟩ : ∃ x, x = q % M := ⟨_, rfl⟩
  have hoM : o < M := by rw [ho]; exact Nat.mod_lt _ hMp
  have a1 : (D : Int) / 8 = (q : Int) := by omega
  have a2 : (D : Int).tdiv 8 = (q : Int) := by rw [Int.tdiv_eq_ediv_of_nonneg (by omega)]; omega
  have a3 : (D : Int) % 8 = (r : Int) := by omega
  have a4 : (D : Int).tmod 8 = (r : Int) := by rw [Int.tmod_eq_emod_of_nonneg (by omega)]; omega
  have a5 : (q : Int) % (M : Int) = (o : Int) := by rw [ho]; exact (Int.natCast_emod q M).symm
  have a6 : (q : Int).tmod (M : Int) = (o : Int) := by rw [Int.tmod_eq_emod_of_nonneg (by omega)]; exact a5
  have hM00 : ¬ ((M : Int) = 0) := by omega
  have TMy := fun w => Lib.hid (rmany_yes (w := w) hM)
  have c1 : decide ((r : Int) < 4) = false := by simp; omega
  have c2 : ((r : Int) == 4) = true := by simp; omega
  have TLv := fun w => Lib.hid (rleaves_any M hm w)
  obtain ⟨LV, hLV⟩ : ∃ x, x = lv M := ⟨_, rfl⟩
  rw [← hLV] at TLv hyl
  obtain ⟨T1, hT1⟩ : ∃ x, x = tv M + 1 := ⟨_, rfl⟩
  have d1 : (m : Int) - (LV : Int) = (T1 : Int) := by omega
  have hT00 : ¬ ((T1 : Int) = 0) := by omega
  obtain ⟨z, hz⟩ : ∃ x, x = q % T1 := ⟨_, rfl⟩
  have hzT : z < T1 := by rw [hz]; exact Nat.mod_lt _ (by omega)
  have d2 : (q : Int) % (T1 : Int) = (z : Int) := by rw [hz]; exact (Int.natCast_emod q T1).symm
  have d3 : (q : Int).tmod (T1 : Int) = (z : Int) := by rw [Int.tmod_eq_emod_of_nonneg (by omega)]; exact d2
  obtain ⟨j, hj⟩ : ∃ x : Nat, (LV : Int) + (z : Int) = x := ⟨LV + z, by omega⟩
  have hj2 : j = LV + z := by omega
  obtain ⟨W1, hW1⟩ : ∃ x : Nat, (D : Int) * 2654435761 = (x : Int) := ⟨D * 2654435761, by omega⟩
  have f1 : IntKind.u64.wrap (W1 : Int) = (W1 : Int) := IntWalk.u64_in _ (by omega)
  obtain ⟨W, hW, hW64⟩ : ∃ x : Nat, IntKind.u64.wrap ((W1 : Int) * 1099511628211) = (x : Int) ∧ x < U64 := wrap_mul W1 1099511628211
  have e5 : IntKind.i64.wrap (j : Int) = (j : Int) := IntWalk.i64_in _ (by omega)
  have e6 : IntKind.i64.wrap (T1 : Int) = (T1 : Int) := IntWalk.i64_in _ (by omega)
  have hDR : DistR M zs ys (ys.set j W) := .inr (.inr (.inl ⟨j, W, by omega, hW64, rfl⟩))
  have TSe : ∀ w, US w B m d ys → Hid (Calls Tryz.prog 33 #[.slice B m d, .int .i64 (j : Nat), .int .u64 (W : Nat)] w (RetSM m (ys.set j W) w)) := fun w U => by have := crset_new U (j : Int) hm6 hW64; rw [stI_nat] at this; exact this
  replace hDR := Lib.hid hDR
  clear hz hj2 hLV hT1 hzT
  clear ho hq hr hlt hoM hY hC hyl
  go_enter Tryz.func10, Tryz.ntmps10
  go_upto_region 1 with (fail)
  have L := Loc.start w
  replace L := (L).alloc #[.int .u32 (a : Int), .int .i64 p, .slice A n c, .int .i64 (ns : Int), .int .i64 wo, .int .i64 qu, .int .i64 tr] 27
  try simp only [World.size_alloc] at L
  try dsimp only [nput] at L
  generalize (w).alloc (.cells #[.int .u32 (a : Int), .int .i64 p, .slice A n c, .int .i64 (ns : Int), .int .i64 wo, .int .i64 qu, .int .i64 tr] 27) = w1 at L ⊢
  generalize w.heap.size = gH at L ⊢
  have H_0 := L.at_ 0 0 rfl (v := .int .u32 (a : Int)) rfl
  have H_1 := L.at_ 0 1 rfl (v := .int .i64 p) rfl
  have H_z := L.lt 0 rfl
  go_wp2_with fail
  refine ((TMy _).out).mono ?_
  rintro e w2 ⟨rfl, K'⟩
  clear H_0 H_1 H_z
  replace L := L.over K'
  go_wp2_with fail
  refine ((TLv _).out).mono ?_
  rintro e w' ⟨rfl, rfl⟩
  go_wp2_with fail
  have KS := L.K.size
  refine ((TSe _ (hU.below L.K)).out).mono ?_
  rintro e w3 ⟨gS, dS, rfl, U, hgS, K'⟩
  have Lb := L.lts
  replace L := L.over K'
  replace L := L.us_av (fun i b e b' o e' => by injection e' with e'; injection e' with e1; have := Lb i b e; omega) U
  clear Lb
  try dsimp only [lF, List.cons_append, List.nil_append] at L
  clear U
  go_wp2
  go_ret
  exact retD_new (L.us_ 0 rfl) hDR.out (Nat.le_trans KS hgS) L.K
set_option maxRecDepth 100000 in
set_option maxHeartbeats 2000000 in
theorem dist_no (hD : D < 4294967296) (hC : Cg a p n zs (ns : Int) M ns) (h0 : IS .i64 lo w A n c zs) (hY : YI M zs ys) (hU : US w B m d ys) (hlt : 4 < D % 8) :
    Calls Tryz.prog 10 #[.agg #[.int .u32 (a : Int), .int .i64 p, .slice A n c, .int .i64 (ns : Int), .int .i64 wo, .int .i64 qu, .int .i64 tr], .slice B m d, .int .u32 (D : Int)] w (RetD M zs ys m B w) := by
  have hM := hC.much
  have hn9 := hC.few
  have hMp := hM.pos
  have hM9 := hC.sml
  have hml := hU.len
  have hyl := hY.len
  have hm := hM.most
  have hl3 := lv_le hm
  have ht3 := tv_le hm
  have hm6 : m ≤ 65536 := by omega
  have hm0 : 0 < m := by omega
  obtain ⟨q, hq⟩ : ∃ x, x = D / 8 := ⟨_, rfl⟩
  obtain ⟨r, hr⟩ : ∃ x, x = D % 8 := ⟨_, rfl⟩
  obtain ⟨o, ho⟩ : ∃ x, x = q % M := ⟨_, rfl⟩
  have hoM : o < M := by rw [ho]; exact Nat.mod_lt _ hMp
  have a1 : (D : Int) / 8 = (q : Int) := by omega
  have a2 : (D : Int).tdiv 8 = (q : Int) := by rw [Int.tdiv_eq_ediv_of_nonneg (by omega)]; omega
  have a3 : (D : Int) % 8 = (r : Int) := by omega
  have a4 : (D : Int).tmod 8 = (r : Int) := by rw [Int.tmod_eq_emod_of_nonneg (by omega)]; omega
  have a5 : (q : Int) % (M : Int) = (o : Int) := by rw [ho]; exact (Int.natCast_emod q M).symm
  have a6 : (q : Int).tmod (M : Int) = (o : Int) := by rw [Int.tmod_eq_emod_of_nonneg (by omega)]; exact a5
  have hM00 : ¬ ((M : Int) = 0) := by omega
  have TMy := fun w => Lib.hid (rmany_yes (w := w) hM)
  have c1 : decide ((r : Int) < 4) = false := by simp; omega
  have c2 : ((r : Int) == 4) = false := by simp; omega
  clear ho hq hr hlt hoM hY hC hyl
  go_enter Tryz.func10, Tryz.ntmps10
  go_upto_region 1 with (fail)
  have L := Loc.start w
  replace L := (L).alloc #[.int .u32 (a : Int), .int .i64 p, .slice A n c, .int .i64 (ns : Int), .int .i64 wo, .int .i64 qu, .int .i64 tr] 27
  try simp only [World.size_alloc] at L
  try dsimp only [nput] at L
  generalize (w).alloc (.cells #[.int .u32 (a : Int), .int .i64 p, .slice A n c, .int .i64 (ns : Int), .int .i64 wo, .int .i64 qu, .int .i64 tr] 27) = w1 at L ⊢
  generalize w.heap.size = gH at L ⊢
  have H_0 := L.at_ 0 0 rfl (v := .int .u32 (a : Int)) rfl
  have H_1 := L.at_ 0 1 rfl (v := .int .i64 p) rfl
  have H_z := L.lt 0 rfl
  go_wp2_with fail
  refine ((TMy _).out).mono ?_
  rintro e w2 ⟨rfl, K'⟩
  clear H_0 H_1 H_z
  replace L := L.over K'
  go_wp2
  go_ret
  exact ⟨_, _, ys, rfl, hU.below L.K, .inr (.inr (.inr rfl)), fun k _ h => h, L.K⟩
theorem dist_any (hD : D < 4294967296) (hC : Cg a p n zs (ns : Int) M ns) (h0 : IS .i64 lo w A n c zs) (hY : YI M zs ys) (hU : US w B m d ys) :
    Calls Tryz.prog 10 #[.agg #[.int .u32 (a : Int), .int .i64 p, .slice A n c, .int .i64 (ns : Int), .int .i64 wo, .int .i64 qu, .int .i64 tr], .slice B m d, .int .u32 (D : Int)] w (RetD M zs ys m B w) := by
  by_cases h4 : D % 8 < 4
  · cases hhe : hasB zs ((D / 8 % M : Nat) : Int) with
    | true => exact dist_held hD hC h0 hY hU h4 hhe
    | false =>
      cases hbt : (gt ys (D / 8 % M / 32)).testBit (D / 8 % M % 32) with
      | true => exact dist_drop hD hC h0 hY hU h4 hhe hbt
      | false => exact dist_claim hD hC h0 hY hU h4 hhe hbt
  · by_cases h5 : D % 8 = 4
    · exact dist_sum hD hC h0 hY hU h5
    · exact dist_no hD hC h0 hY hU (by omega)
end
end Go.Proofs.YtacgjaohfcoigaaGreat

/-
  The first cells, in new memory. Conditions: a block that may be.
-/
namespace Go.Proofs.YtacgjaohfcoigaaGreat
set_option maxRecDepth 100000
open Go.RowKit
set_option maxHeartbeats 1000000 in
theorem wcells_new {w : World} {lo a M : Nat} {p sh wo qu tr : Int} {A : Option Addr} {n c : Nat} {xs : List Int} (ha : a < 4294967296) (hM : Much a p M) (h : IS .i64 lo w A n c xs) (hn : n ≤ 65536) (hr : risB M 0 xs = true) :
    Calls Tryz.prog 9 #[.agg #[.int .u32 a, .int .i64 p, .slice A n c, .int .i64 sh, .int .i64 wo, .int .i64 qu, .int .i64 tr]] w (RetSM (lv M + tv M + 1) (cl (nw M xs) (lv M) (tv M) (lv M)) w) := by
  have hm := hM.most
  have h1 := lv_le hm
  have h2 := tv_le hm
  have h3 : lv M ≤ 64 * tv M := by unfold tv tq; omega
  have h4 : M ≤ 32 * lv M ∧ 32 * lv M < M + 32 := by unfold lv; omega
  have F := fun w g j ys (B : Blk w g 37 ys) e1 e2 e3 => Lib.hid (wfree_any (M := M) (j := j) B e1 e2 hm e3)
  have T1 := fun w => Lib.hid (cells_any M hm w)
  have T2 := fun w => Lib.hid (leaves_any M hm w)
  have T3 : ∀ w, Hid (Calls Tryz.prog 26 #[.int .i64 64] w fun e w' => e = .returned (.int .u64 (msk 64)) ∧ w = w') := fun w => mask_any 64 (by decide) w
  have hv := nw_lt M xs
  obtain ⟨N, hN⟩ : ∃ N, N = lv M + tv M + 1 := ⟨_, rfl⟩
  rw [← hN] at T1 F ⊢
  obtain ⟨i0, hi, hz0, hz1, hz2⟩ := info_parts u64_info
  have hb8 : i0.bytes * N ≤ 281474976710656 := by rw [hz2]; omega
  have hN2 : N ≤ 3000 := by omega
  generalize lv M = L at *
  generalize tv M = T at *
  have HN := Lib.hid hN
  clear hN
  have K := below_alloc w (.cells #[.int .u32 a, .int .i64 p, .slice A n c, .int .i64 sh, .int .i64 wo, .int .i64 qu, .int .i64 tr] 27)
  have H := Bk.new w #[.int .u32 a, .int .i64 p, .slice A n c, .int .i64 sh, .int .i64 wo, .int .i64 qu, .int .i64 tr] 27
  replace h := h.below K
  go_enter Tryz.func9, Tryz.ntmps9
  go_wp2_with fail
  generalize w.alloc (.cells #[.int .u32 a, .int .i64 p, .slice A n c, .int .i64 sh, .int .i64 wo, .int .i64 qu, .int .i64 tr] 27) = w1 at H K h ⊢
  generalize w.heap.size = g at H ⊢
  refine (many_yes ha hM).mono ?_
  rintro e w2 ⟨rfl, K'⟩
  replace H := H.below K'
  replace h := h.below K'
  replace K := Below.then_ K K'
  clear K'
  go_wp2_with (first
    | ((with_reducible refine ((T1 _).out).mono ?_); rintro e w' ⟨rfl, rfl⟩)
    | ((with_reducible refine ((T2 _).out).mono ?_); rintro e w' ⟨rfl, rfl⟩)
    | (at_make; refine wpList_make_full _ rfl (.tmp 11) (.tmp 11) _ rfl w2.heap.size 37 i0 _ 1 Tryz.underlying38 hi hz0 hz1 .i64 .i64 _ _ N rfl rfl rfl rfl hb8 (by unfold maxLen; omega) (Nat.le_refl _) ?_; intro w3 hown1 hg1; have B := Blk.of_made hown1; clear hown1; have K1 : Below w2.heap.size w2 w3 := (Below.refl _ _).grown hg1 (Nat.le_refl _) (by simp); clear hg1))
  clear hb8 hi hz0 hz1 hz2 T1
  rw [prc_start L] at B
  obtain ⟨g2, hg2⟩ : ∃ x, x = w2.heap.size := ⟨_, rfl⟩
  rw [← hg2] at B ⊢
  have hge : w2.heap.size ≤ g2 := by omega
  clear hg2
  have hg0 : w.heap.size ≤ g2 := Nat.le_trans K.size hge
  go_loopw [5] (fun i wr => ∃ k : Nat, L ≤ k ∧ k ≤ N ∧ i = .int .i64 k ∧ Hid (Blk wr g2 37 (prc L k N)) ∧ Below w2.heap.size w2 wr) (fun i _ => N - (intOf i).toNat)
  case atStart => exact ⟨L, Nat.le_refl _, by have := HN.out; omega, rfl, Lib.hid B, K1⟩
  case round =>
    clear B K1
    obtain ⟨k, hLk, hk, rfl, HB, Kr⟩ := hrel
    by_cases hlt : k < N
    · have c1 := HB.out.cell (i := k) (by rw [prc_len]; omega)
      have f1 := HB.out.frozen k
      have HB2 : Hid (Blk (wr.setCell ⟨g2, k, none⟩ (.int .u64 (msk 64 : Nat))) g2 37 (prc L (k + 1) N)) := by have := HB.out.set_ k (msk 64); rw [prc_step hLk hlt] at this; exact this
      go_wp2_with ((with_reducible refine ((T3 _).out).mono ?_); rintro e w' ⟨rfl, rfl⟩)
      go_roundw
      case rel => exact ⟨k + 1, by omega, by omega, by go_num, HB2, Kr.setCell hge _⟩
      case measure => simp [intOf]; omega
    · obtain rfl : k = N := by omega
      have HB2 : Hid (Blk wr g2 37 (cl (nw M xs) L T 0)) := by have := HB.out; rw [HN.out, prc_end (nw M xs)] at this; exact this
      clear HB
      go_wp2_with ((with_reducible refine ((T2 _).out).mono ?_); rintro e w' ⟨rfl, rfl⟩)
      clear T3 T2 hlt hLk hk
      go_loopw [27] (fun i ws => ∃ j : Nat, j ≤ L ∧ i = .int .i64 j ∧ Hid (Blk ws g2 37 (cl (nw M xs) L T j)) ∧ Below w2.heap.size w2 ws) (fun i _ => L - (intOf i).toNat)
      case atStart => exact ⟨0, Nat.zero_le _, rfl, HB2, Kr⟩
      case round =>
        clear HB2 Kr
        obtain ⟨j, hj, rfl, HB, Kr⟩ := hrel
        replace H := H.below Kr
        replace h := h.below Kr
        have K2 := Below.then_ K Kr
        clear K
        have K := K2
        clear K2
        by_cases hlt : j < L
        · have hjM : 32 * j < M := by omega
          have gH := H.lt
          have H_0 := H.at_ (v := .int .u32 a) 0 rfl
          have H_1 := H.at_ (v := .int .i64 p) 1 rfl
          have H_2 := H.at_ (v := .slice A n c) 2 rfl
          have H_3 := H.at_ (v := .int .i64 sh) 3 rfl
          have H_4 := H.at_ (v := .int .i64 wo) 4 rfl
          have H_5 := H.at_ (v := .int .i64 qu) 5 rfl
          have H_6 := H.at_ (v := .int .i64 tr) 6 rfl
          have H_z := H.lt
          go_wp2_with fail
          refine (wnew_any ha hM h hn hr hjM).mono ?_
          rintro e w6 ⟨rfl, K6⟩
          clear H_0 H_1 H_2 H_3 H_4 H_5 H_6 H_z
          have K' := K6
          replace H := H.below K'
          replace h := h.below K'
          replace Kr := Below.then_ Kr K'
          replace K := Below.then_ K K'
          clear K'
          have B := HB.out.below K6
          clear HB K6
          have B2 := B.set_ j (nw M xs j)
          have c1 := B.cell (i := j) (by rw [cl_len]; omega)
          have f1 := B.frozen j
          have c2 := B2.cell (i := j) (by rw [List.length_set, cl_len]; omega)
          rw [gt_set (by rw [cl_len]; omega), if_pos rfl] at c2
          have V := fun w => Lib.hid (full_any (nw M xs j) (hv j) w)
          have hjT : j / 64 < T := by omega
          have HE : L + T + 1 = k := HN.out.symm
          have hjk : j < k := by omega
          cases hfu : fl (nw M xs j) with
          | true =>
            rw [cl_full hlt hfu] at B2
            rw [hfu] at V
            have HB := Lib.hid B2
            clear B B2 hfu F HE
            have Kx := Kr.setCell (p := ⟨g2, j, none⟩) hge (.int .u64 (nw M xs j : Nat))
            generalize nw M xs j = x at *
            go_wp2_with ((with_reducible refine ((V _).out).mono ?_); rintro e w' ⟨rfl, rfl⟩)
            go_roundw
            case rel => exact ⟨j + 1, by omega, by go_num, HB, Kx⟩
            case measure => simp [intOf]; omega
          | false =>
            have FF := F _ _ j _ B2 (by rw [List.length_set, cl_len]; exact HE) (fit_set (cl_fit hv L T j) j (hv j)) hlt
            rw [gt_set (by rw [cl_len]; omega), gt_set (by rw [cl_len]; omega), if_neg (by omega), if_neg (by omega), gt_cl_top hjT, gt_cl_root, cl_free hlt hjT (by omega) hfu] at FF
            rw [hfu] at V
            clear B B2 hfu F HE
            have Kx := Kr.setCell (p := ⟨g2, j, none⟩) hge (.int .u64 (nw M xs j : Nat))
            generalize nw M xs j = x at *
            go_wp2_with ((with_reducible refine ((V _).out).mono ?_); rintro e w' ⟨rfl, rfl⟩)
            refine ((FF).out).mono ?_
            rintro e w7 ⟨rfl, B7, K7⟩
            go_wp2
            go_roundw
            case rel => exact ⟨j + 1, by omega, by go_num, Lib.hid B7, Kx.trans (K7.mono hge)⟩
            case measure => simp [intOf]; omega
        · obtain rfl : j = L := by omega
          go_wp2
          go_ret
          exact ⟨_, _, rfl, HB.out.us (cl_fit hv _ _ _) (by rw [cl_len]; exact HN.out.symm) (by omega), hg0, K⟩
end Go.Proofs.YtacgjaohfcoigaaGreat
