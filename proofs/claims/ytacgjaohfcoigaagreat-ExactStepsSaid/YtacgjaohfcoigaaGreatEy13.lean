/-
  What the functions that these laws call answer, and what follows of it; conditions: those that each theorem names. In this file: ExactR, ExactRight, ExactGx, ExactStep.
-/
import Derived.Test.YtacgjaohfcoigaaGreatEy12
/-
  What the document's Begin and Step of layer 18 answer. Conditions: a block that may be, a request that is right, as many cells as there are.
-/
namespace Go.Proofs.YtacgjaohfcoigaaGreat
set_option maxRecDepth 100000
set_option maxRecDepth 100000
open Go.RowKit
set_option linter.unusedVariables false
section
variable {w w1 : World} {lo lo2 a m d M ns N o lf b X n0 c0 : Nat} {p wo qu tr kd : Int} {A B A0 : Option Addr} {n c : Nat} {zs xs : List Int} {ys : List Nat} {h : Hd} {s : Sc}
set_option maxRecDepth 100000 in
set_option maxHeartbeats 2000000 in
theorem rb18_any (ha : a < 4294967296) (hM : Much a p M) (hX : X < 4294967296) (hx : X = a + o) (hoM : o < M) (hI : IS .u32 lo2 w A0 n0 c0 xs) :
    Calls Tryz.prog 7 #[.agg #[.int .u32 (a : Int), .int .i64 p, .slice A n c, .int .i64 (ns : Int), .int .i64 wo, .int .i64 qu, .int .i64 tr], .agg #[.int .i64 kd, .int .u32 (X : Int), .slice A0 n0 c0]] w (RetXB (eS0 kd (X : Int) o) xs ⟨A0, n0, c0, none, 0, 0, none, 0, 0, none, 0, 0⟩ w) := by
  have hm9 := hM.most
  obtain ⟨lf, hlf⟩ : ∃ y, y = o / 32 := ⟨_, rfl⟩
  obtain ⟨b, hb⟩ : ∃ y, y = o % 32 := ⟨_, rfl⟩
  have hS : eS0 kd (X : Int) o = ⟨kd, (X : Int), 0, 0, false, 8, 0, 0, (lf : Int), (b : Int), 0, false, 0, 0, 0, 0⟩ := by unfold eS0; rw [← hlf, ← hb]
  replace hS := Lib.hid hS
  have TO := fun w => Lib.hid (by have R := roffset_in (w := w) (p := p) X hX hM (by omega) (by omega); rw [show X - a = o by omega] at R; exact R)
  have g1 : (o : Int) / 32 = (lf : Int) := by omega
  have g2 : (o : Int).tdiv 32 = (lf : Int) := by rw [Int.tdiv_eq_ediv_of_nonneg (by omega)]; omega
  have g3 : (o : Int) % 32 = (b : Int) := by omega
  have g4 : (o : Int).tmod 32 = (b : Int) := by rw [Int.tmod_eq_emod_of_nonneg (by omega)]; omega
  have g5 : IntKind.i64.wrap (lf : Int) = (lf : Int) := IntWalk.i64_in _ (by omega)
  clear hlf hb hx hoM hm9 hM hX
  go_enter Tryz.func7, Tryz.ntmps7
  go_upto_region 1 with (fail)
  have L := Loc.start w
  replace L := (((L).alloc #[.int .u32 (a : Int), .int .i64 p, .slice A n c, .int .i64 (ns : Int), .int .i64 wo, .int .i64 qu, .int .i64 tr] 27).alloc #[.int .i64 kd, .int .u32 (X : Int), .slice A0 n0 c0] 30).alloc #[.int .i64 0, .int .u32 0, .slice none 0 0, .int .i64 0, .int .u32 0, .bool false, .slice none 0 0, .slice none 0 0, .int .i64 0, .int .i64 0, .int .i64 0, .int .i64 0, .int .i64 0, .int .u64 0, .bool false, .slice none 0 0, .int .i64 0, .int .i64 0, .int .i64 0, .int .i64 0] 40
  try simp only [World.size_alloc] at L
  replace L := L.is 0 (opv hd0 sc0) rfl
  try dsimp only [nput] at L
  generalize (((w).alloc (.cells #[.int .u32 (a : Int), .int .i64 p, .slice A n c, .int .i64 (ns : Int), .int .i64 wo, .int .i64 qu, .int .i64 tr] 27)).alloc (.cells #[.int .i64 kd, .int .u32 (X : Int), .slice A0 n0 c0] 30)).alloc (.cells #[.int .i64 0, .int .u32 0, .slice none 0 0, .int .i64 0, .int .u32 0, .bool false, .slice none 0 0, .slice none 0 0, .int .i64 0, .int .i64 0, .int .i64 0, .int .i64 0, .int .i64 0, .int .u64 0, .bool false, .slice none 0 0, .int .i64 0, .int .i64 0, .int .i64 0, .int .i64 0] 40) = w1 at L ⊢
  generalize w.heap.size + 1 + 1 = gR at L ⊢
  generalize w.heap.size + 1 = gX3 at L ⊢
  generalize w.heap.size = gH at L ⊢
  have H_0 := L.at_ 2 0 rfl (v := .int .u32 (a : Int)) rfl
  have H_1 := L.at_ 2 1 rfl (v := .int .i64 p) rfl
  have X3_1 := L.at_ 1 1 rfl (v := .int .u32 (X : Int)) rfl
  have H_z := L.lt 2 rfl
  have X3_z := L.lt 1 rfl
  go_wp2_with fail
  refine ((TO _).out).mono ?_
  rintro e w2 ⟨rfl, K'⟩
  clear H_0 H_1 X3_1 H_z X3_z
  replace L := L.over K'
  go_wp2_with (first | (refine wpList_load_row rfl 30 (.tmp 3) rfl gX3 rfl _ _ (0, 0) _ (L.bk_ 1 rfl) Tryz.underlying30 rfl ak_sz ?_) | (refine wpList_store_row rfl 40 (.tmp 4) (.tmp 20) rfl gR _ rfl (show _ = Value.agg (opv ⟨A0, n0, c0, none, 0, 0, none, 0, 0, none, 0, 0⟩ ⟨kd, (X : Int), 0, 0, false, 8, 0, 0, (lf : Int), (b : Int), 0, false, 0, 0, 0, 0⟩) from rfl) _ _ (L.bk_ 0 rfl) op_sz rfl (opv_one _ _) ?_))
  replace L := (L.row 0 rfl (opv ⟨A0, n0, c0, none, 0, 0, none, 0, 0, none, 0, 0⟩ ⟨kd, (X : Int), 0, 0, false, 8, 0, 0, (lf : Int), (b : Int), 0, false, 0, 0, 0, 0⟩))
  try dsimp only [nput] at L
  generalize (w2).setRow gR (opv ⟨A0, n0, c0, none, 0, 0, none, 0, 0, none, 0, 0⟩ ⟨kd, (X : Int), 0, 0, false, 8, 0, 0, (lf : Int), (b : Int), 0, false, 0, 0, 0, 0⟩) = w3 at L ⊢
  refine bodyPost_ret (v := .agg (opv ⟨A0, n0, c0, none, 0, 0, none, 0, 0, none, 0, 0⟩ ⟨kd, (X : Int), 0, 0, false, 8, 0, 0, (lf : Int), (b : Int), 0, false, 0, 0, 0, 0⟩)) ?_ rfl ?_
  · exact results_cell_row (fn := Tryz.f7) Tryz.results7 _ _ gR _ _ (0, 0) _ rfl (L.bk_ 0 rfl) Tryz.underlying40 rfl op_sz
  rw [hS.out]; exact ⟨_, rfl, ⟨(hI.below L.K).lower (Nat.zero_le _), IS.none_ _ _ _, IS.none_ _ _ _, IS.none_ _ _ _⟩, sao_same _ _, L.K⟩
theorem xr_claim (ha : a < 4294967296) (hM : Much a p M) (hE : EI a M zs o s) (hY : YI M zs ys) (hU : US w B m d ys) (hph : s.phase = 3) :
    Calls Tryz.prog 38 #[.agg #[.int .u32 (a : Int), .int .i64 p, .slice A n c, .int .i64 (ns : Int), .int .i64 wo, .int .i64 qu, .int .i64 tr], .slice B m d, .agg (opv h s)] w (RetXR (eS a M ys s) h m (gC M ys s) (eB ys s) B w) := by
  have hml := hU.len
  have hyl := hY.len
  have hfit := hM.fits ha
  have gl9 := hE.fl
  have fb' := hE.fb
  have hle := hE.le
  obtain ⟨e1, e2, e3⟩ := es_claim (a := a) (M := M) (ys := ys) hph
  rw [e1, e2, e3]
  obtain ⟨oM, hh, kd, lf, bt', it, wd, ph⟩ := hE
  have k2 : s.kind = 2 := by rcases ph with ⟨h, _⟩ | ⟨_, h, _⟩ | ⟨h, _⟩ | ⟨h, _⟩ <;> omega
  unfold claimS claimC
  rw [gl9, fb']
  by_cases hne : gt ys (o / 32) = s.word
  · rw [if_pos hne, if_pos hne, decide_eq_true hne]
    cases hfl : fl (clm s.word (o % 32)) with
    | true => rw [if_pos rfl]; exact rcx_full (ns := ns) (wo := wo) (qu := qu) (tr := tr) (A := A) (n := n) (c := c) ha hM hU (by omega) k2 lf hle hph bt' (by omega) (by omega) wd hne hfl
    | false =>
      rw [if_neg Bool.false_ne_true, gon_no (show (adS s _).kind ≠ 4 by show s.kind ≠ 4; omega)]
      exact rcx_go (ns := ns) (wo := wo) (qu := qu) (tr := tr) (A := A) (n := n) (c := c) ha hM hU (by omega) k2 lf hle hph bt' (by omega) (by omega) wd hne hfl
  · rw [if_neg hne, if_neg hne, decide_eq_false hne]; exact rcx_not (ns := ns) (wo := wo) (qu := qu) (tr := tr) (A := A) (n := n) (c := c) ha hM hU (by omega) k2 lf hle hph hne
theorem xr_mark (ha : a < 4294967296) (hM : Much a p M) (hE : EI a M zs o s) (hY : YI M zs ys) (hU : US w B m d ys) (hph : s.phase = 4 ∨ s.phase = 5) :
    Calls Tryz.prog 39 #[.agg #[.int .u32 (a : Int), .int .i64 p, .slice A n c, .int .i64 (ns : Int), .int .i64 wo, .int .i64 qu, .int .i64 tr], .slice B m d, .agg (opv h s)] w (RetRM (eS a M ys s) h m (gC M ys s) B w) := by
  have hml := hU.len
  have hyl := hY.len
  have hle := hE.le
  have hk4 := hE.k4
  obtain ⟨e1, e2, _⟩ := es_mark (a := a) (M := M) (ys := ys) hph
  rw [e1, e2]
  obtain ⟨oM, hh, kd, lf, bt', it, wd, ph⟩ := hE
  rcases ph with ⟨h, _⟩ | ⟨h, _⟩ | ⟨_, _, q3, q4, _⟩ | ⟨h, _⟩
  · omega
  · omega
  · exact rmx_any (ns := ns) (wo := wo) (qu := qu) (tr := tr) (A := A) (n := n) (c := c) ha hM hU (by omega) hk4 lf hle wd q3 q4 hph
  · omega
set_option maxRecDepth 100000 in
set_option maxHeartbeats 2000000 in
theorem xrs3 (ha : a < 4294967296) (hM : Much a p M) (hE : EI a M zs o s) (hY : YI M zs ys) (hU : US w B m d ys) (hph : s.phase = 3) :
    Calls Tryz.prog 12 #[.agg #[.int .u32 (a : Int), .int .i64 p, .slice A n c, .int .i64 (ns : Int), .int .i64 wo, .int .i64 qu, .int .i64 tr], .slice B m d, .agg (opv h s)] w (RetXR (eS a M ys s) h m (gC M ys s) (eB ys s) B w) := by
  have hm0 : 0 < m := by have := hU.len; have := hY.len; omega
  obtain ⟨s2, hs2⟩ : ∃ s2, s2 = eS a M ys s := ⟨_, rfl⟩
  obtain ⟨y2, hy2⟩ : ∃ y2, y2 = gC M ys s := ⟨_, rfl⟩
  obtain ⟨b2, hb2⟩ : ∃ b2, b2 = eB ys s := ⟨_, rfl⟩
  have TK := fun w (U : US w B m d ys) => Lib.hid (xr_claim (w := w) (h := h) (s := s) (ns := ns) (wo := wo) (qu := qu) (tr := tr) (A := A) (n := n) (c := c) ha hM hE hY U hph)
  simp only [← hs2, ← hy2, ← hb2] at TK ⊢
  clear hE hY hs2 hy2 hb2 ha hM
  rcases s with ⟨kind, addr, err, aad, used, phase, shard, sought, leaf, bit, word, full, at_, tries, item, stamp⟩
  rcases h with ⟨A0, n0, c0, A1, n1, c1, A2, n2, c2, A3, n3, c3⟩
  try dsimp only at *
  subst hph
  go_enter Tryz.func12, Tryz.ntmps12
  go_upto_region 1 with (fail)
  have L := Loc.start w
  replace L := (((L).alloc #[.int .u32 (a : Int), .int .i64 p, .slice A n c, .int .i64 (ns : Int), .int .i64 wo, .int .i64 qu, .int .i64 tr] 27).alloc (opv ⟨A0, n0, c0, A1, n1, c1, A2, n2, c2, A3, n3, c3⟩ ⟨kind, addr, err, aad, used, 3, shard, sought, leaf, bit, word, full, at_, tries, item, stamp⟩) 40).alloc #[.int .i64 0, .int .u32 0, .slice none 0 0, .int .i64 0, .int .u32 0, .bool false, .slice none 0 0, .slice none 0 0, .int .i64 0, .int .i64 0, .int .i64 0, .int .i64 0, .int .i64 0, .int .u64 0, .bool false, .slice none 0 0, .int .i64 0, .int .i64 0, .int .i64 0, .int .i64 0] 40
  try simp only [World.size_alloc] at L
  replace L := L.is 0 (opv hd0 sc0) rfl
  try dsimp only [nput] at L
  generalize (((w).alloc (.cells #[.int .u32 (a : Int), .int .i64 p, .slice A n c, .int .i64 (ns : Int), .int .i64 wo, .int .i64 qu, .int .i64 tr] 27)).alloc (.cells (opv ⟨A0, n0, c0, A1, n1, c1, A2, n2, c2, A3, n3, c3⟩ ⟨kind, addr, err, aad, used, 3, shard, sought, leaf, bit, word, full, at_, tries, item, stamp⟩) 40)).alloc (.cells #[.int .i64 0, .int .u32 0, .slice none 0 0, .int .i64 0, .int .u32 0, .bool false, .slice none 0 0, .slice none 0 0, .int .i64 0, .int .i64 0, .int .i64 0, .int .i64 0, .int .i64 0, .int .u64 0, .bool false, .slice none 0 0, .int .i64 0, .int .i64 0, .int .i64 0, .int .i64 0] 40) = w1 at L ⊢
  generalize w.heap.size + 1 + 1 = gR at L ⊢
  generalize w.heap.size + 1 = gO at L ⊢
  generalize w.heap.size = gH at L ⊢
  have O_8 := L.at_ 1 8 rfl (v := .int .i64 3) rfl
  have O_z := L.lt 1 rfl
  go_wp2_with (first | (refine wpList_load_row rfl 27 (.tmp 3) rfl gH rfl _ _ (0, 0) _ (L.bk_ 2 rfl) Tryz.underlying27 rfl cf_sz ?_) | (refine wpList_load_row rfl 40 (.tmp 5) rfl gO rfl _ _ (0, 0) _ (L.bk_ 1 rfl) Tryz.underlying40 rfl op_sz ?_))
  have KS := L.K.size
  refine ((TK _ (hU.below L.K)).out).mono ?_
  rintro e w2 ⟨B2, d2, rfl, U, hA, K'⟩
  clear O_8 O_z
  have Lb := L.lts
  replace L := L.over K'
  replace L := L.us_av (fun i b e => hA b.1 (Lb i b e) (hU.apart0 hm0 L i b e)) U
  clear Lb
  try dsimp only [lF, List.cons_append, List.nil_append] at L
  clear U
  go_wp2_with (refine wpList_store_row rfl 40 (.tmp 7) (.tmp 21) rfl gR _ rfl rfl _ _ (L.bk_ 0 rfl) op_sz rfl (opv_one _ _) ?_)
  replace L := (L.row 0 rfl (opv ⟨A0, n0, c0, A1, n1, c1, A2, n2, c2, A3, n3, c3⟩ s2))
  try dsimp only [nput] at L
  generalize (w2).setRow gR (opv ⟨A0, n0, c0, A1, n1, c1, A2, n2, c2, A3, n3, c3⟩ s2) = w3 at L ⊢
  refine bodyPost_ret (v := .tuple #[.slice B2 m d2, .agg (opv ⟨A0, n0, c0, A1, n1, c1, A2, n2, c2, A3, n3, c3⟩ s2), .bool b2]) ?_ rfl ?_
  · exact results_tct (fn := Tryz.f12) Tryz.results12 _ _ gR _ _ (0, 0) _ rfl (L.bk_ 0 rfl) Tryz.underlying40 rfl op_sz
  exact ⟨_, _, rfl, L.us_ 0 rfl, fun k hk => hA k (Nat.lt_of_lt_of_le hk KS), L.K⟩
set_option maxRecDepth 100000 in
set_option maxHeartbeats 2000000 in
theorem xrs4 (ha : a < 4294967296) (hM : Much a p M) (hE : EI a M zs o s) (hY : YI M zs ys) (hU : US w B m d ys) (hph : s.phase = 4) :
    Calls Tryz.prog 12 #[.agg #[.int .u32 (a : Int), .int .i64 p, .slice A n c, .int .i64 (ns : Int), .int .i64 wo, .int .i64 qu, .int .i64 tr], .slice B m d, .agg (opv h s)] w (RetXR (eS a M ys s) h m (gC M ys s) (eB ys s) B w) := by
  have hm0 : 0 < m := by have := hU.len; have := hY.len; omega
  obtain ⟨s2, hs2⟩ : ∃ s2, s2 = eS a M ys s := ⟨_, rfl⟩
  obtain ⟨y2, hy2⟩ : ∃ y2, y2 = gC M ys s := ⟨_, rfl⟩
  obtain ⟨b2, hb2⟩ : ∃ b2, b2 = eB ys s := ⟨_, rfl⟩
  have TK := fun w (U : US w B m d ys) => Lib.hid (xr_mark (w := w) (h := h) (s := s) (ns := ns) (wo := wo) (qu := qu) (tr := tr) (A := A) (n := n) (c := c) ha hM hE hY U (.inl hph))
  simp only [← hs2, ← hy2] at TK ⊢
  rw [show eB ys s = false from (es_mark (a := a) (M := M) (ys := ys) (.inl hph)).2.2]
  clear hE hY hs2 hy2 hb2 ha hM
  rcases s with ⟨kind, addr, err, aad, used, phase, shard, sought, leaf, bit, word, full, at_, tries, item, stamp⟩
  rcases h with ⟨A0, n0, c0, A1, n1, c1, A2, n2, c2, A3, n3, c3⟩
  try dsimp only at *
  subst hph
  go_enter Tryz.func12, Tryz.ntmps12
  go_upto_region 1 with (fail)
  have L := Loc.start w
  replace L := (((L).alloc #[.int .u32 (a : Int), .int .i64 p, .slice A n c, .int .i64 (ns : Int), .int .i64 wo, .int .i64 qu, .int .i64 tr] 27).alloc (opv ⟨A0, n0, c0, A1, n1, c1, A2, n2, c2, A3, n3, c3⟩ ⟨kind, addr, err, aad, used, 4, shard, sought, leaf, bit, word, full, at_, tries, item, stamp⟩) 40).alloc #[.int .i64 0, .int .u32 0, .slice none 0 0, .int .i64 0, .int .u32 0, .bool false, .slice none 0 0, .slice none 0 0, .int .i64 0, .int .i64 0, .int .i64 0, .int .i64 0, .int .i64 0, .int .u64 0, .bool false, .slice none 0 0, .int .i64 0, .int .i64 0, .int .i64 0, .int .i64 0] 40
  try simp only [World.size_alloc] at L
  replace L := L.is 0 (opv hd0 sc0) rfl
  try dsimp only [nput] at L
  generalize (((w).alloc (.cells #[.int .u32 (a : Int), .int .i64 p, .slice A n c, .int .i64 (ns : Int), .int .i64 wo, .int .i64 qu, .int .i64 tr] 27)).alloc (.cells (opv ⟨A0, n0, c0, A1, n1, c1, A2, n2, c2, A3, n3, c3⟩ ⟨kind, addr, err, aad, used, 4, shard, sought, leaf, bit, word, full, at_, tries, item, stamp⟩) 40)).alloc (.cells #[.int .i64 0, .int .u32 0, .slice none 0 0, .int .i64 0, .int .u32 0, .bool false, .slice none 0 0, .slice none 0 0, .int .i64 0, .int .i64 0, .int .i64 0, .int .i64 0, .int .i64 0, .int .u64 0, .bool false, .slice none 0 0, .int .i64 0, .int .i64 0, .int .i64 0, .int .i64 0] 40) = w1 at L ⊢
  generalize w.heap.size + 1 + 1 = gR at L ⊢
  generalize w.heap.size + 1 = gO at L ⊢
  generalize w.heap.size = gH at L ⊢
  have O_8 := L.at_ 1 8 rfl (v := .int .i64 4) rfl
  have O_z := L.lt 1 rfl
  go_wp2_with (first | (refine wpList_load_row rfl 27 (.tmp 3) rfl gH rfl _ _ (0, 0) _ (L.bk_ 2 rfl) Tryz.underlying27 rfl cf_sz ?_) | (refine wpList_load_row rfl 40 (.tmp 5) rfl gO rfl _ _ (0, 0) _ (L.bk_ 1 rfl) Tryz.underlying40 rfl op_sz ?_))
  have KS := L.K.size
  refine ((TK _ (hU.below L.K)).out).mono ?_
  rintro e w2 ⟨B2, d2, rfl, U, hA, K'⟩
  clear O_8 O_z
  have Lb := L.lts
  replace L := L.over K'
  replace L := L.us_av (fun i b e => hA b.1 (Lb i b e) (hU.apart0 hm0 L i b e)) U
  clear Lb
  try dsimp only [lF, List.cons_append, List.nil_append] at L
  clear U
  go_upto_region 7 with (refine wpList_store_row rfl 40 (.tmp 10) (.tmp 32) rfl _ _ rfl (show _ = Value.agg (opv ⟨A0, n0, c0, A1, n1, c1, A2, n2, c2, A3, n3, c3⟩ s2) from rfl) _ _ (Bk.new _ _ _) op_sz rfl (opv_one _ _) ?_)
  try rw [World.setRow_alloc_new]
  replace L := (L).alloc (opv ⟨A0, n0, c0, A1, n1, c1, A2, n2, c2, A3, n3, c3⟩ s2) 40
  try simp only [World.size_alloc] at L
  try dsimp only [nput] at L
  generalize (w2).alloc (.cells (opv ⟨A0, n0, c0, A1, n1, c1, A2, n2, c2, A3, n3, c3⟩ s2) 40) = w3 at L ⊢
  generalize w2.heap.size = gP at L ⊢
  replace L := L.drew
  refine wp_region_held_drew (S := fun w' => ∃ v_R : Array Value, v_R.size = 20 ∧ Loc w w' [(gP, 40, opv ⟨A0, n0, c0, A1, n1, c1, A2, n2, c2, A3, n3, c3⟩ s2), (gR, 40, v_R), (gO, 40, opv ⟨A0, n0, c0, A1, n1, c1, A2, n2, c2, A3, n3, c3⟩ ⟨kind, addr, err, aad, used, 4, shard, sought, leaf, bit, word, full, at_, tries, item, stamp⟩), (gH, 27, #[.int .u32 (a : Int), .int .i64 p, .slice A n c, .int .i64 (ns : Int), .int .i64 wo, .int .i64 qu, .int .i64 tr])] [uF B2 m d2 y2]) (by kernel_rfl) (⟨_, rfl, L⟩) (fun hHeld => ?_)
  generalize w3.drew = v4 at hHeld L ⊢
  refine wpAnyH_take (i := 0) (oi := ⟨some 33, _, _, _, _, _⟩) (v := .slice B2 m d2) rfl (by kernel_rfl) (by kernel_rfl) (by kernel_rfl) (fun _ _ _ h => h) (Or.inl ⟨by rfl, ?_⟩) hHeld ?_
  · intro ww hS
    try dsimp only at hS
    go_simp
    try with_reducible rfl
    try omega
  try simp only [Act.put, List.setIfInBounds_toArray, List.set_cons_zero, List.set_cons_succ]
  refine wpAnyH_take (i := 1) (oi := ⟨some 34, _, _, _, _, _⟩) (v := .agg (opv ⟨A0, n0, c0, A1, n1, c1, A2, n2, c2, A3, n3, c3⟩ s2)) rfl (by kernel_rfl) (by kernel_rfl) (by kernel_rfl) (fun _ _ _ h => h) (yieldsIf_load_row (by rfl) 40 (.tmp 10) rfl gP rfl 40 _ (0, 0) _ (fun _ hS => ((hS.choose_spec.2).bk_ 0 rfl)) Tryz.underlying40 rfl op_sz) hHeld ?_
  try simp only [Act.put, List.setIfInBounds_toArray, List.set_cons_zero, List.set_cons_succ]
  refine wpAnyH_take (i := 2) (oi := ⟨some 6, _, _, _, _, _⟩) (v := .slice B2 m d2) rfl (by kernel_rfl) (by kernel_rfl) (by kernel_rfl) (fun _ _ _ h => h) (Or.inl ⟨by rfl, ?_⟩) hHeld ?_
  · intro ww hS
    try dsimp only at hS
    go_simp
    try with_reducible rfl
    try omega
  try simp only [Act.put, List.setIfInBounds_toArray, List.set_cons_zero, List.set_cons_succ]
  refine wpAnyH_ready (rs := [3]) (by kernel_rfl) (by simp) ?_
  refine AllReadyH.cons (o := ⟨none, _, _, _, _, _⟩) rfl (fun K0 hK => ?_) AllReadyH.nil
  rw [if_pos (by rfl)]
  refine wp_store_row 40 (.tmp 7) (.tmp 34) rfl gR _ rfl rfl _ _ (L.bk_ 1 rfl) op_sz rfl (opv_one _ _) ?_
  replace L := L.row 1 rfl (opv ⟨A0, n0, c0, A1, n1, c1, A2, n2, c2, A3, n3, c3⟩ s2)
  try dsimp only [nput] at L
  refine hK.out _ _ ⟨_, rfl, L⟩ (fun hHeld' => ?_)
  clear hHeld hK K0
  have hHeld := hHeld'
  clear hHeld'
  generalize v4.setRow gR (opv ⟨A0, n0, c0, A1, n1, c1, A2, n2, c2, A3, n3, c3⟩ s2) = v5 at hHeld L ⊢
  try simp only [Act.put]
  refine wpAnyH_take (i := 4) (oi := ⟨some 8, _, _, _, _, _⟩) (v := .bool false) rfl (by kernel_rfl) (by kernel_rfl) (by kernel_rfl) (fun _ _ _ h => h) (Or.inl ⟨by rfl, ?_⟩) hHeld ?_
  · intro ww hS
    try dsimp only at hS
    go_simp
    try with_reducible rfl
    try omega
  try simp only [Act.put, List.setIfInBounds_toArray, List.set_cons_zero, List.set_cons_succ]
  refine wpAnyH_done (by kernel_rfl) ?_ _
  clear hHeld
  go_wp2
  refine bodyPost_ret (v := .tuple #[.slice B2 m d2, .agg (opv ⟨A0, n0, c0, A1, n1, c1, A2, n2, c2, A3, n3, c3⟩ s2), .bool false]) ?_ rfl ?_
  · exact results_tct (fn := Tryz.f12) Tryz.results12 _ _ gR _ _ (0, 0) _ rfl (L.bk_ 1 rfl) Tryz.underlying40 rfl op_sz
  exact ⟨_, _, rfl, L.us_ 0 rfl, fun k hk => hA k (Nat.lt_of_lt_of_le hk KS), L.K⟩
set_option maxRecDepth 100000 in
set_option maxHeartbeats 2000000 in
theorem xrs5 (ha : a < 4294967296) (hM : Much a p M) (hE : EI a M zs o s) (hY : YI M zs ys) (hU : US w B m d ys) (hph : s.phase = 5) :
    Calls Tryz.prog 12 #[.agg #[.int .u32 (a : Int), .int .i64 p, .slice A n c, .int .i64 (ns : Int), .int .i64 wo, .int .i64 qu, .int .i64 tr], .slice B m d, .agg (opv h s)] w (RetXR (eS a M ys s) h m (gC M ys s) (eB ys s) B w) := by
  have hm0 : 0 < m := by have := hU.len; have := hY.len; omega
  obtain ⟨s2, hs2⟩ : ∃ s2, s2 = eS a M ys s := ⟨_, rfl⟩
  obtain ⟨y2, hy2⟩ : ∃ y2, y2 = gC M ys s := ⟨_, rfl⟩
  obtain ⟨b2, hb2⟩ : ∃ b2, b2 = eB ys s := ⟨_, rfl⟩
  have TK := fun w (U : US w B m d ys) => Lib.hid (xr_mark (w := w) (h := h) (s := s) (ns := ns) (wo := wo) (qu := qu) (tr := tr) (A := A) (n := n) (c := c) ha hM hE hY U (.inr hph))
  simp only [← hs2, ← hy2] at TK ⊢
  rw [show eB ys s = false from (es_mark (a := a) (M := M) (ys := ys) (.inr hph)).2.2]
  clear hE hY hs2 hy2 hb2 ha hM
  rcases s with ⟨kind, addr, err, aad, used, phase, shard, sought, leaf, bit, word, full, at_, tries, item, stamp⟩
  rcases h with ⟨A0, n0, c0, A1, n1, c1, A2, n2, c2, A3, n3, c3⟩
  try dsimp only at *
  subst hph
  go_enter Tryz.func12, Tryz.ntmps12
  go_upto_region 1 with (fail)
  have L := Loc.start w
  replace L := (((L).alloc #[.int .u32 (a : Int), .int .i64 p, .slice A n c, .int .i64 (ns : Int), .int .i64 wo, .int .i64 qu, .int .i64 tr] 27).alloc (opv ⟨A0, n0, c0, A1, n1, c1, A2, n2, c2, A3, n3, c3⟩ ⟨kind, addr, err, aad, used, 5, shard, sought, leaf, bit, word, full, at_, tries, item, stamp⟩) 40).alloc #[.int .i64 0, .int .u32 0, .slice none 0 0, .int .i64 0, .int .u32 0, .bool false, .slice none 0 0, .slice none 0 0, .int .i64 0, .int .i64 0, .int .i64 0, .int .i64 0, .int .i64 0, .int .u64 0, .bool false, .slice none 0 0, .int .i64 0, .int .i64 0, .int .i64 0, .int .i64 0] 40
  try simp only [World.size_alloc] at L
  replace L := L.is 0 (opv hd0 sc0) rfl
  try dsimp only [nput] at L
  generalize (((w).alloc (.cells #[.int .u32 (a : Int), .int .i64 p, .slice A n c, .int .i64 (ns : Int), .int .i64 wo, .int .i64 qu, .int .i64 tr] 27)).alloc (.cells (opv ⟨A0, n0, c0, A1, n1, c1, A2, n2, c2, A3, n3, c3⟩ ⟨kind, addr, err, aad, used, 5, shard, sought, leaf, bit, word, full, at_, tries, item, stamp⟩) 40)).alloc (.cells #[.int .i64 0, .int .u32 0, .slice none 0 0, .int .i64 0, .int .u32 0, .bool false, .slice none 0 0, .slice none 0 0, .int .i64 0, .int .i64 0, .int .i64 0, .int .i64 0, .int .i64 0, .int .u64 0, .bool false, .slice none 0 0, .int .i64 0, .int .i64 0, .int .i64 0, .int .i64 0] 40) = w1 at L ⊢
  generalize w.heap.size + 1 + 1 = gR at L ⊢
  generalize w.heap.size + 1 = gO at L ⊢
  generalize w.heap.size = gH at L ⊢
  have O_8 := L.at_ 1 8 rfl (v := .int .i64 5) rfl
  have O_z := L.lt 1 rfl
  go_wp2_with (first | (refine wpList_load_row rfl 27 (.tmp 3) rfl gH rfl _ _ (0, 0) _ (L.bk_ 2 rfl) Tryz.underlying27 rfl cf_sz ?_) | (refine wpList_load_row rfl 40 (.tmp 5) rfl gO rfl _ _ (0, 0) _ (L.bk_ 1 rfl) Tryz.underlying40 rfl op_sz ?_))
  have KS := L.K.size
  refine ((TK _ (hU.below L.K)).out).mono ?_
  rintro e w2 ⟨B2, d2, rfl, U, hA, K'⟩
  clear O_8 O_z
  have Lb := L.lts
  replace L := L.over K'
  replace L := L.us_av (fun i b e => hA b.1 (Lb i b e) (hU.apart0 hm0 L i b e)) U
  clear Lb
  try dsimp only [lF, List.cons_append, List.nil_append] at L
  clear U
  go_upto_region 7 with (refine wpList_store_row rfl 40 (.tmp 10) (.tmp 32) rfl _ _ rfl (show _ = Value.agg (opv ⟨A0, n0, c0, A1, n1, c1, A2, n2, c2, A3, n3, c3⟩ s2) from rfl) _ _ (Bk.new _ _ _) op_sz rfl (opv_one _ _) ?_)
  try rw [World.setRow_alloc_new]
  replace L := (L).alloc (opv ⟨A0, n0, c0, A1, n1, c1, A2, n2, c2, A3, n3, c3⟩ s2) 40
  try simp only [World.size_alloc] at L
  try dsimp only [nput] at L
  generalize (w2).alloc (.cells (opv ⟨A0, n0, c0, A1, n1, c1, A2, n2, c2, A3, n3, c3⟩ s2) 40) = w3 at L ⊢
  generalize w2.heap.size = gP at L ⊢
  replace L := L.drew
  refine wp_region_held_drew (S := fun w' => ∃ v_R : Array Value, v_R.size = 20 ∧ Loc w w' [(gP, 40, opv ⟨A0, n0, c0, A1, n1, c1, A2, n2, c2, A3, n3, c3⟩ s2), (gR, 40, v_R), (gO, 40, opv ⟨A0, n0, c0, A1, n1, c1, A2, n2, c2, A3, n3, c3⟩ ⟨kind, addr, err, aad, used, 5, shard, sought, leaf, bit, word, full, at_, tries, item, stamp⟩), (gH, 27, #[.int .u32 (a : Int), .int .i64 p, .slice A n c, .int .i64 (ns : Int), .int .i64 wo, .int .i64 qu, .int .i64 tr])] [uF B2 m d2 y2]) (by kernel_rfl) (⟨_, rfl, L⟩) (fun hHeld => ?_)
  generalize w3.drew = v4 at hHeld L ⊢
  refine wpAnyH_take (i := 0) (oi := ⟨some 33, _, _, _, _, _⟩) (v := .slice B2 m d2) rfl (by kernel_rfl) (by kernel_rfl) (by kernel_rfl) (fun _ _ _ h => h) (Or.inl ⟨by rfl, ?_⟩) hHeld ?_
  · intro ww hS
    try dsimp only at hS
    go_simp
    try with_reducible rfl
    try omega
  try simp only [Act.put, List.setIfInBounds_toArray, List.set_cons_zero, List.set_cons_succ]
  refine wpAnyH_take (i := 1) (oi := ⟨some 34, _, _, _, _, _⟩) (v := .agg (opv ⟨A0, n0, c0, A1, n1, c1, A2, n2, c2, A3, n3, c3⟩ s2)) rfl (by kernel_rfl) (by kernel_rfl) (by kernel_rfl) (fun _ _ _ h => h) (yieldsIf_load_row (by rfl) 40 (.tmp 10) rfl gP rfl 40 _ (0, 0) _ (fun _ hS => ((hS.choose_spec.2).bk_ 0 rfl)) Tryz.underlying40 rfl op_sz) hHeld ?_
  try simp only [Act.put, List.setIfInBounds_toArray, List.set_cons_zero, List.set_cons_succ]
  refine wpAnyH_take (i := 2) (oi := ⟨some 6, _, _, _, _, _⟩) (v := .slice B2 m d2) rfl (by kernel_rfl) (by kernel_rfl) (by kernel_rfl) (fun _ _ _ h => h) (Or.inl ⟨by rfl, ?_⟩) hHeld ?_
  · intro ww hS
    try dsimp only at hS
    go_simp
    try with_reducible rfl
    try omega
  try simp only [Act.put, List.setIfInBounds_toArray, List.set_cons_zero, List.set_cons_succ]
  refine wpAnyH_ready (rs := [3]) (by kernel_rfl) (by simp) ?_
  refine AllReadyH.cons (o := ⟨none, _, _, _, _, _⟩) rfl (fun K0 hK => ?_) AllReadyH.nil
  rw [if_pos (by rfl)]
  refine wp_store_row 40 (.tmp 7) (.tmp 34) rfl gR _ rfl rfl _ _ (L.bk_ 1 rfl) op_sz rfl (opv_one _ _) ?_
  replace L := L.row 1 rfl (opv ⟨A0, n0, c0, A1, n1, c1, A2, n2, c2, A3, n3, c3⟩ s2)
  try dsimp only [nput] at L
  refine hK.out _ _ ⟨_, rfl, L⟩ (fun hHeld' => ?_)
  clear hHeld hK K0
  have hHeld := hHeld'
  clear hHeld'
  generalize v4.setRow gR (opv ⟨A0, n0, c0, A1, n1, c1, A2, n2, c2, A3, n3, c3⟩ s2) = v5 at hHeld L ⊢
  try simp only [Act.put]
  refine wpAnyH_take (i := 4) (oi := ⟨some 8, _, _, _, _, _⟩) (v := .bool false) rfl (by kernel_rfl) (by kernel_rfl) (by kernel_rfl) (fun _ _ _ h => h) (Or.inl ⟨by rfl, ?_⟩) hHeld ?_
  · intro ww hS
    try dsimp only at hS
    go_simp
    try with_reducible rfl
    try omega
  try simp only [Act.put, List.setIfInBounds_toArray, List.set_cons_zero, List.set_cons_succ]
  refine wpAnyH_done (by kernel_rfl) ?_ _
  clear hHeld
  go_wp2
  refine bodyPost_ret (v := .tuple #[.slice B2 m d2, .agg (opv ⟨A0, n0, c0, A1, n1, c1, A2, n2, c2, A3, n3, c3⟩ s2), .bool false]) ?_ rfl ?_
  · exact results_tct (fn := Tryz.f12) Tryz.results12 _ _ gR _ _ (0, 0) _ rfl (L.bk_ 1 rfl) Tryz.underlying40 rfl op_sz
  exact ⟨_, _, rfl, L.us_ 0 rfl, fun k hk => hA k (Nat.lt_of_lt_of_le hk KS), L.K⟩
set_option maxRecDepth 100000 in
set_option maxHeartbeats 2000000 in
theorem xrs8_take (ha : a < 4294967296) (hM : Much a p M) (hE : EI a M zs o s) (hY : YI M zs ys) (hU : US w B m d ys) (hph : s.phase = 8) (hk : s.kind = 2) (hbit : (gt ys (o / 32)).testBit (o % 32) = false) :
    Calls Tryz.prog 12 #[.agg #[.int .u32 (a : Int), .int .i64 p, .slice A n c, .int .i64 (ns : Int), .int .i64 wo, .int .i64 qu, .int .i64 tr], .slice B m d, .agg (opv h s)] w (RetXR (eS a M ys s) h m (gC M ys s) (eB ys s) B w) := by
  have hml := hU.len
  have hyl := hY.len
  have hle := hE.le
  have hlf := hE.lf
  have hbt := hE.bt
  have gl9 := hE.fl
  have fb' := hE.fb
  have hcm : o / 32 < m := by omega
  obtain ⟨bb, oo, hBe, hbb, hcc⟩ := hU.get hcm
  subst hBe
  have hx64 := gt_lt hU.fit (o / 32)
  have TH := fun w => Lib.hid (rhas_any (gt ys (o / 32)) (o % 32) hx64 (by omega) w)
  rw [hbit] at TH
  obtain ⟨e1, e2⟩ := es_read (a := a) (M := M) (ys := ys) hph
  obtain ⟨x, hx⟩ : ∃ x, x = gt ys (o / 32) := ⟨_, rfl⟩
  have e4 : eB ys s = false := by unfold eB; rw [if_pos hph, gl9, fb', hk, hbit]; rfl
  have e5 : xkS (gt ys s.leaf.toNat) s = tkS s x := by unfold xkS; rw [gl9, fb', if_pos hk, hbit, if_neg Bool.false_ne_true, hx]
  rw [e1, e2, e4, e5]
  clear e1 e2 e4 e5
  rw [← hx] at hcc TH
  obtain ⟨lf, hlf2⟩ : ∃ y, y = o / 32 := ⟨_, rfl⟩
  obtain ⟨b, hb2⟩ : ∃ y, y = o % 32 := ⟨_, rfl⟩
  rw [← hlf2] at hlf hcc hcm hle
  rw [← hb2] at hbt TH
  have hcm2 : (lf : Int) < (m : Int) := by omega
  clear hx hlf2 hb2 hE hY hyl hx64 gl9 fb' ha hM hle hml hbit
  rcases s with ⟨kind, addr, err, aad, used, phase, shard, sought, leaf, bit, word, full, at_, tries, item, stamp⟩
  rcases h with ⟨A0, n0, c0, A1, n1, c1, A2, n2, c2, A3, n3, c3⟩
  try dsimp only at *
  subst hph hk hlf hbt
  go_enter Tryz.func12, Tryz.ntmps12
  go_upto_region 1 with (fail)
  have L := Loc.start w
  replace L := (((L).alloc #[.int .u32 (a : Int), .int .i64 p, .slice A n c, .int .i64 (ns : Int), .int .i64 wo, .int .i64 qu, .int .i64 tr] 27).alloc (opv ⟨A0, n0, c0, A1, n1, c1, A2, n2, c2, A3, n3, c3⟩ ⟨2, addr, err, aad, used, 8, shard, sought, (lf : Int), (b : Int), word, full, at_, tries, item, stamp⟩) 40).alloc #[.int .i64 0, .int .u32 0, .slice none 0 0, .int .i64 0, .int .u32 0, .bool false, .slice none 0 0, .slice none 0 0, .int .i64 0, .int .i64 0, .int .i64 0, .int .i64 0, .int .i64 0, .int .u64 0, .bool false, .slice none 0 0, .int .i64 0, .int .i64 0, .int .i64 0, .int .i64 0] 40
  try simp only [World.size_alloc] at L
  replace L := L.is 0 (opv hd0 sc0) rfl
  try dsimp only [nput] at L
  generalize (((w).alloc (.cells #[.int .u32 (a : Int), .int .i64 p, .slice A n c, .int .i64 (ns : Int), .int .i64 wo, .int .i64 qu, .int .i64 tr] 27)).alloc (.cells (opv ⟨A0, n0, c0, A1, n1, c1, A2, n2, c2, A3, n3, c3⟩ ⟨2, addr, err, aad, used, 8, shard, sought, (lf : Int), (b : Int), word, full, at_, tries, item, stamp⟩) 40)).alloc (.cells #[.int .i64 0, .int .u32 0, .slice none 0 0, .int .i64 0, .int .u32 0, .bool false, .slice none 0 0, .slice none 0 0, .int .i64 0, .int .i64 0, .int .i64 0, .int .i64 0, .int .i64 0, .int .u64 0, .bool false, .slice none 0 0, .int .i64 0, .int .i64 0, .int .i64 0, .int .i64 0] 40) = w1 at L ⊢
  generalize w.heap.size + 1 + 1 = gR at L ⊢
  generalize w.heap.size + 1 = gO at L ⊢
  generalize w.heap.size = gH at L ⊢
  have O_8 := L.at_ 1 8 rfl (v := .int .i64 8) rfl
  have O_z := L.lt 1 rfl
  go_upto_region 9 with fail
  clear O_8 O_z
  replace L := L.drew
  refine wp_region_held_drew (S := fun w' => Loc w w' [(gR, 40, opv hd0 sc0), (gO, 40, opv ⟨A0, n0, c0, A1, n1, c1, A2, n2, c2, A3, n3, c3⟩ ⟨2, addr, err, aad, used, 8, shard, sought, (lf : Int), (b : Int), word, full, at_, tries, item, stamp⟩), (gH, 27, #[.int .u32 (a : Int), .int .i64 p, .slice A n c, .int .i64 (ns : Int), .int .i64 wo, .int .i64 qu, .int .i64 tr])] []) (by kernel_rfl) L (fun hHeld => ?_)
  generalize w1.drew = v2 at hHeld L ⊢
  refine wpAnyH_take (i := 0) (oi := ⟨some 37, _, _, _, _, _⟩) (v := .slice (some ⟨bb, oo, none⟩) m d) rfl (by kernel_rfl) (by kernel_rfl) (by kernel_rfl) (fun _ _ _ h => h) (Or.inl ⟨by rfl, ?_⟩) hHeld ?_
  · intro ww hS
    try dsimp only at hS
    go_simp
    try with_reducible rfl
    try omega
  try simp only [Act.put, List.setIfInBounds_toArray, List.set_cons_zero, List.set_cons_succ]
  refine wpAnyH_take (i := 1) (oi := ⟨some 38, _, _, _, _, _⟩) (v := .pointer (some ⟨gO, 11, none⟩)) rfl (by kernel_rfl) (by kernel_rfl) (by kernel_rfl) (fun _ _ _ h => h) (Or.inl ⟨by rfl, ?_⟩) hHeld ?_
  · intro ww hS
    try dsimp only at hS
    go_simp
    try with_reducible rfl
    try omega
  try simp only [Act.put, List.setIfInBounds_toArray, List.set_cons_zero, List.set_cons_succ]
  refine wpAnyH_take (i := 2) (oi := ⟨some 39, _, _, _, _, _⟩) (v := .int .i64 (lf : Int)) rfl (by kernel_rfl) (by kernel_rfl) (by kernel_rfl) (fun _ _ _ h => h) (Or.inl ⟨by rfl, ?_⟩) hHeld ?_
  · intro ww hS
    try dsimp only at hS
    have O_11 := (hS).at_ 1 11 rfl (v := .int .i64 (lf : Int)) rfl
    have O_z := (hS).lt 1 rfl
    go_simp
    try with_reducible rfl
    try omega
  try simp only [Act.put, List.setIfInBounds_toArray, List.set_cons_zero, List.set_cons_succ]
  refine wpAnyH_take (i := 3) (oi := ⟨some 40, _, _, _, _, _⟩) (v := .pointer (some ⟨bb, oo + lf, none⟩)) rfl (by kernel_rfl) (by kernel_rfl) (by kernel_rfl) (fun _ _ _ h => h) (Or.inl ⟨by rfl, ?_⟩) hHeld ?_
  · intro ww hS
    try dsimp only at hS
    go_simp
    try with_reducible rfl
    try omega
  try simp only [Act.put, List.setIfInBounds_toArray, List.set_cons_zero, List.set_cons_succ]
  refine wpAnyH_take (i := 4) (oi := ⟨some 41, _, _, _, _, _⟩) (v := .int .u64 ((x : Nat) : Int)) rfl (by kernel_rfl) (by kernel_rfl) (by kernel_rfl) (fun _ _ _ h => h) (Or.inl ⟨by rfl, ?_⟩) hHeld ?_
  · intro ww hS
    try dsimp only at hS
    have X := (((hS)).K.cell (p := ⟨bb, oo + lf, none⟩) hbb).trans hcc
    go_simp
    try with_reducible rfl
    try omega
  try simp only [Act.put, List.setIfInBounds_toArray, List.set_cons_zero, List.set_cons_succ]
  refine wpAnyH_take (i := 5) (oi := ⟨some 42, _, _, _, _, _⟩) (v := .pointer (some ⟨gO, 12, none⟩)) rfl (by kernel_rfl) (by kernel_rfl) (by kernel_rfl) (fun _ _ _ h => h) (Or.inl ⟨by rfl, ?_⟩) hHeld ?_
  · intro ww hS
    try dsimp only at hS
    go_simp
    try with_reducible rfl
    try omega
  try simp only [Act.put, List.setIfInBounds_toArray, List.set_cons_zero, List.set_cons_succ]
  refine wpAnyH_take (i := 6) (oi := ⟨some 43, _, _, _, _, _⟩) (v := .int .i64 (b : Int)) rfl (by kernel_rfl) (by kernel_rfl) (by kernel_rfl) (fun _ _ _ h => h) (Or.inl ⟨by rfl, ?_⟩) hHeld ?_
  · intro ww hS
    try dsimp only at hS
    have O_12 := (hS).at_ 1 12 rfl (v := .int .i64 (b : Int)) rfl
    have O_z := (hS).lt 1 rfl
    go_simp
    try with_reducible rfl
    try omega
  try simp only [Act.put, List.setIfInBounds_toArray, List.set_cons_zero, List.set_cons_succ]
  refine wpAnyH_ready (rs := [7]) (by kernel_rfl) (by simp) ?_
  refine AllReadyH.cons (o := ⟨some 44, _, _, _, _, _⟩) rfl (fun K0 hK => ?_) AllReadyH.nil
  go_simp
  refine ((TH _).out).mono ?_
  rintro e w' ⟨rfl, rfl⟩
  refine hK.out _ _ L (fun hHeld' => ?_)
  clear hHeld hK K0
  have hHeld := hHeld'
  clear hHeld'
  try simp only [Act.put, List.setIfInBounds_toArray, List.set_cons_zero, List.set_cons_succ]
  refine wpAnyH_take (i := 8) (oi := ⟨some 11, _, _, _, _, _⟩) (v := .bool false) rfl (by kernel_rfl) (by kernel_rfl) (by kernel_rfl) (fun _ _ _ h => h) (Or.inl ⟨by rfl, ?_⟩) hHeld ?_
  · intro ww hS
    try dsimp only at hS
    go_simp
    try with_reducible rfl
    try omega
  try simp only [Act.put, List.setIfInBounds_toArray, List.set_cons_zero, List.set_cons_succ]
  refine wpAnyH_done (by kernel_rfl) ?_ _
  clear hHeld
  have O_0 := L.at_ 1 0 rfl (v := .int .i64 2) rfl
  have O_11 := L.at_ 1 11 rfl (v := .int .i64 (lf : Int)) rfl
  have O_13 := L.at_ 1 13 rfl (v := .int .u64 ((word : Nat) : Int)) rfl
  have O_z := L.lt 1 rfl
  have O_f13 := L.fz 1 13 rfl
  have X := (L.K.cell (p := ⟨bb, oo + lf, none⟩) hbb).trans hcc
  go_upto_region 12 with fail
  clear O_0 O_11 O_13 O_z O_f13 X
  replace L := ((L.set 1 13 rfl (.int .u64 ((x : Nat) : Int))).is 1 (opv ⟨A0, n0, c0, A1, n1, c1, A2, n2, c2, A3, n3, c3⟩ ⟨2, addr, err, aad, used, 8, shard, sought, (lf : Int), (b : Int), x, full, at_, tries, item, stamp⟩) rfl)
  try dsimp only [nput] at L
  generalize (v2).setCell ⟨gO, 13, none⟩ (.int .u64 ((x : Nat) : Int)) = w3 at L ⊢
  have O_8 := L.at_ 1 8 rfl (v := .int .i64 8) rfl
  have O_z := L.lt 1 rfl
  have O_f8 := L.fz 1 8 rfl
  go_upto_region 13 with fail
  clear O_8 O_z O_f8
  replace L := ((L.set 1 8 rfl (.int .i64 3)).is 1 (opv ⟨A0, n0, c0, A1, n1, c1, A2, n2, c2, A3, n3, c3⟩ ⟨2, addr, err, aad, used, 3, shard, sought, (lf : Int), (b : Int), x, full, at_, tries, item, stamp⟩) rfl)
  try dsimp only [nput] at L
  generalize (w3).setCell ⟨gO, 8, none⟩ (.int .i64 3) = w4 at L ⊢
  replace L := L.drew
  refine wp_region_held_drew (S := fun w' => ∃ v_R : Array Value, v_R.size = 20 ∧ Loc w w' [(gR, 40, v_R), (gO, 40, opv ⟨A0, n0, c0, A1, n1, c1, A2, n2, c2, A3, n3, c3⟩ ⟨2, addr, err, aad, used, 3, shard, sought, (lf : Int), (b : Int), x, full, at_, tries, item, stamp⟩), (gH, 27, #[.int .u32 (a : Int), .int .i64 p, .slice A n c, .int .i64 (ns : Int), .int .i64 wo, .int .i64 qu, .int .i64 tr])] []) (by kernel_rfl) (⟨_, rfl, L⟩) (fun hHeld => ?_)
  generalize w4.drew = v5 at hHeld L ⊢
  refine wpAnyH_take (i := 0) (oi := ⟨some 60, _, _, _, _, _⟩) (v := .slice (some ⟨bb, oo, none⟩) m d) rfl (by kernel_rfl) (by kernel_rfl) (by kernel_rfl) (fun _ _ _ h => h) (Or.inl ⟨by rfl, ?_⟩) hHeld ?_
  · intro ww hS
    try dsimp only at hS
    go_simp
    try with_reducible rfl
    try omega
  try simp only [Act.put, List.setIfInBounds_toArray, List.set_cons_zero, List.set_cons_succ]
  refine wpAnyH_take (i := 1) (oi := ⟨some 61, _, _, _, _, _⟩) (v := .agg (opv ⟨A0, n0, c0, A1, n1, c1, A2, n2, c2, A3, n3, c3⟩ ⟨2, addr, err, aad, used, 3, shard, sought, (lf : Int), (b : Int), x, full, at_, tries, item, stamp⟩)) rfl (by kernel_rfl) (by kernel_rfl) (by kernel_rfl) (fun _ _ _ h => h) (yieldsIf_load_row (by rfl) 40 (.tmp 5) rfl gO rfl 40 _ (0, 0) _ (fun _ hS => ((hS.choose_spec.2).bk_ 1 rfl)) Tryz.underlying40 rfl op_sz) hHeld ?_
  try simp only [Act.put, List.setIfInBounds_toArray, List.set_cons_zero, List.set_cons_succ]
  refine wpAnyH_take (i := 2) (oi := ⟨some 6, _, _, _, _, _⟩) (v := .slice (some ⟨bb, oo, none⟩) m d) rfl (by kernel_rfl) (by kernel_rfl) (by kernel_rfl) (fun _ _ _ h => h) (Or.inl ⟨by rfl, ?_⟩) hHeld ?_
  · intro ww hS
    try dsimp only at hS
    go_simp
    try with_reducible rfl
    try omega
  try simp only [Act.put, List.setIfInBounds_toArray, List.set_cons_zero, List.set_cons_succ]
  refine wpAnyH_ready (rs := [3]) (by kernel_rfl) (by simp) ?_
  refine AllReadyH.cons (o := ⟨none, _, _, _, _, _⟩) rfl (fun K0 hK => ?_) AllReadyH.nil
  rw [if_pos (by rfl)]
  refine wp_store_row 40 (.tmp 7) (.tmp 61) rfl gR _ rfl rfl _ _ (L.bk_ 0 rfl) op_sz rfl (opv_one _ _) ?_
  replace L := L.row 0 rfl (opv ⟨A0, n0, c0, A1, n1, c1, A2, n2, c2, A3, n3, c3⟩ ⟨2, addr, err, aad, used, 3, shard, sought, (lf : Int), (b : Int), x, full, at_, tries, item, stamp⟩)
  try dsimp only [nput] at L
  refine hK.out _ _ ⟨_, rfl, L⟩ (fun hHeld' => ?_)
  clear hHeld hK K0
  have hHeld := hHeld'
  clear hHeld'
  generalize v5.setRow gR (opv ⟨A0, n0, c0, A1, n1, c1, A2, n2, c2, A3, n3, c3⟩ ⟨2, addr, err, aad, used, 3, shard, sought, (lf : Int), (b : Int), x, full, at_, tries, item, stamp⟩) = v6 at hHeld L ⊢
  try simp only [Act.put]
  refine wpAnyH_take (i := 4) (oi := ⟨some 8, _, _, _, _, _⟩) (v := .bool false) rfl (by kernel_rfl) (by kernel_rfl) (by kernel_rfl) (fun _ _ _ h => h) (Or.inl ⟨by rfl, ?_⟩) hHeld ?_
  · intro ww hS
    try dsimp only at hS
    go_simp
    try with_reducible rfl
    try omega
  try simp only [Act.put, List.setIfInBounds_toArray, List.set_cons_zero, List.set_cons_succ]
  refine wpAnyH_done (by kernel_rfl) ?_ _
  clear hHeld
  go_wp2
  refine bodyPost_ret (v := .tuple #[.slice (some ⟨bb, oo, none⟩) m d, .agg (opv ⟨A0, n0, c0, A1, n1, c1, A2, n2, c2, A3, n3, c3⟩ ⟨2, addr, err, aad, used, 3, shard, sought, (lf : Int), (b : Int), x, full, at_, tries, item, stamp⟩), .bool false]) ?_ rfl ?_
  · exact results_tct (fn := Tryz.f12) Tryz.results12 _ _ gR _ _ (0, 0) _ rfl (L.bk_ 0 rfl) Tryz.underlying40 rfl op_sz
  exact ⟨_, _, rfl, hU.below L.K, fun k _ h => h, L.K⟩
set_option maxRecDepth 100000 in
set_option maxHeartbeats 2000000 in
theorem xrs8_used (ha : a < 4294967296) (hM : Much a p M) (hE : EI a M zs o s) (hY : YI M zs ys) (hU : US w B m d ys) (hph : s.phase = 8) (hk : s.kind = 2) (hbit : (gt ys (o / 32)).testBit (o % 32) = true) :
    Calls Tryz.prog 12 #[.agg #[.int .u32 (a : Int), .int .i64 p, .slice A n c, .int .i64 (ns : Int), .int .i64 wo, .int .i64 qu, .int .i64 tr], .slice B m d, .agg (opv h s)] w (RetXR (eS a M ys s) h m (gC M ys s) (eB ys s) B w) := by
  have hml := hU.len
  have hyl := hY.len
  have hle := hE.le
  have hlf := hE.lf
  have hbt := hE.bt
  have gl9 := hE.fl
  have fb' := hE.fb
  have hcm : o / 32 < m := by omega
  obtain ⟨bb, oo, hBe, hbb, hcc⟩ := hU.get hcm
  subst hBe
  have hx64 := gt_lt hU.fit (o / 32)
  have TH := fun w => Lib.hid (rhas_any (gt ys (o / 32)) (o % 32) hx64 (by omega) w)
  rw [hbit] at TH
  obtain ⟨e1, e2⟩ := es_read (a := a) (M := M) (ys := ys) hph
  obtain ⟨x, hx⟩ : ∃ x, x = gt ys (o / 32) := ⟨_, rfl⟩
  have e4 : eB ys s = true := by unfold eB; rw [if_pos hph, gl9, fb', hk, hbit]; rfl
  have e5 : xkS (gt ys s.leaf.toNat) s = usdS s := by unfold xkS; rw [gl9, fb', if_pos hk, hbit, if_pos rfl]
  rw [e1, e2, e4, e5]
  clear e1 e2 e4 e5
  rw [← hx] at hcc TH
  obtain ⟨lf, hlf2⟩ : ∃ y, y = o / 32 := ⟨_, rfl⟩
  obtain ⟨b, hb2⟩ : ∃ y, y = o % 32 := ⟨_, rfl⟩
  rw [← hlf2] at hlf hcc hcm hle
  rw [← hb2] at hbt TH
  have hcm2 : (lf : Int) < (m : Int) := by omega
  clear hx hlf2 hb2 hE hY hyl hx64 gl9 fb' ha hM hle hml hbit
  rcases s with ⟨kind, addr, err, aad, used, phase, shard, sought, leaf, bit, word, full, at_, tries, item, stamp⟩
  rcases h with ⟨A0, n0, c0, A1, n1, c1, A2, n2, c2, A3, n3, c3⟩
  try dsimp only at *
  subst hph hk hlf hbt
  go_enter Tryz.func12, Tryz.ntmps12
  go_upto_region 1 with (fail)
  have L := Loc.start w
  replace L := (((L).alloc #[.int .u32 (a : Int), .int .i64 p, .slice A n c, .int .i64 (ns : Int), .int .i64 wo, .int .i64 qu, .int .i64 tr] 27).alloc (opv ⟨A0, n0, c0, A1, n1, c1, A2, n2, c2, A3, n3, c3⟩ ⟨2, addr, err, aad, used, 8, shard, sought, (lf : Int), (b : Int), word, full, at_, tries, item, stamp⟩) 40).alloc #[.int .i64 0, .int .u32 0, .slice none 0 0, .int .i64 0, .int .u32 0, .bool false, .slice none 0 0, .slice none 0 0, .int .i64 0, .int .i64 0, .int .i64 0, .int .i64 0, .int .i64 0, .int .u64 0, .bool false, .slice none 0 0, .int .i64 0, .int .i64 0, .int .i64 0, .int .i64 0] 40
  try simp only [World.size_alloc] at L
  replace L := L.is 0 (opv hd0 sc0) rfl
  try dsimp only [nput] at L
  generalize (((w).alloc (.cells #[.int .u32 (a : Int), .int .i64 p, .slice A n c, .int .i64 (ns : Int), .int .i64 wo, .int .i64 qu, .int .i64 tr] 27)).alloc (.cells (opv ⟨A0, n0, c0, A1, n1, c1, A2, n2, c2, A3, n3, c3⟩ ⟨2, addr, err, aad, used, 8, shard, sought, (lf : Int), (b : Int), word, full, at_, tries, item, stamp⟩) 40)).alloc (.cells #[.int .i64 0, .int .u32 0, .slice none 0 0, .int .i64 0, .int .u32 0, .bool false, .slice none 0 0, .slice none 0 0, .int .i64 0, .int .i64 0, .int .i64 0, .int .i64 0, .int .i64 0, .int .u64 0, .bool false, .slice none 0 0, .int .i64 0, .int .i64 0, .int .i64 0, .int .i64 0] 40) = w1 at L ⊢
  generalize w.heap.size + 1 + 1 = gR at L ⊢
  generalize w.heap.size + 1 = gO at L ⊢
  generalize w.heap.size = gH at L ⊢
  have O_8 := L.at_ 1 8 rfl (v := .int .i64 8) rfl
  have O_z := L.lt 1 rfl
  go_upto_region 9 with fail
  clear O_8 O_z
  replace L := L.drew
  refine wp_region_held_drew (S := fun w' => Loc w w' [(gR, 40, opv hd0 sc0), (gO, 40, opv ⟨A0, n0, c0, A1, n1, c1, A2, n2, c2, A3, n3, c3⟩ ⟨2, addr, err, aad, used, 8, shard, sought, (lf : Int), (b : Int), word, full, at_, tries, item, stamp⟩), (gH, 27, #[.int .u32 (a : Int), .int .i64 p, .slice A n c, .int .i64 (ns : Int), .int .i64 wo, .int .i64 qu, .int .i64 tr])] []) (by kernel_rfl) L (fun hHeld => ?_)
  generalize w1.drew = v2 at hHeld L ⊢
  refine wpAnyH_take (i := 0) (oi := ⟨some 37, _, _, _, _, _⟩) (v := .slice (some ⟨bb, oo, none⟩) m d) rfl (by kernel_rfl) (by kernel_rfl) (by kernel_rfl) (fun _ _ _ h => h) (Or.inl ⟨by rfl, ?_⟩) hHeld ?_
  · intro ww hS
    try dsimp only at hS
    go_simp
    try with_reducible rfl
    try omega
  try simp only [Act.put, List.setIfInBounds_toArray, List.set_cons_zero, List.set_cons_succ]
  refine wpAnyH_take (i := 1) (oi := ⟨some 38, _, _, _, _, _⟩) (v := .pointer (some ⟨gO, 11, none⟩)) rfl (by kernel_rfl) (by kernel_rfl) (by kernel_rfl) (fun _ _ _ h => h) (Or.inl ⟨by rfl, ?_⟩) hHeld ?_
  · intro ww hS
    try dsimp only at hS
    go_simp
    try with_reducible rfl
    try omega
  try simp only [Act.put, List.setIfInBounds_toArray, List.set_cons_zero, List.set_cons_succ]
  refine wpAnyH_take (i := 2) (oi := ⟨some 39, _, _, _, _, _⟩) (v := .int .i64 (lf : Int)) rfl (by kernel_rfl) (by kernel_rfl) (by kernel_rfl) (fun _ _ _ h => h) (Or.inl ⟨by rfl, ?_⟩) hHeld ?_
  · intro ww hS
    try dsimp only at hS
    have O_11 := (hS).at_ 1 11 rfl (v := .int .i64 (lf : Int)) rfl
    have O_z := (hS).lt 1 rfl
    go_simp
    try with_reducible rfl
    try omega
  try simp only [Act.put, List.setIfInBounds_toArray, List.set_cons_zero, List.set_cons_succ]
  refine wpAnyH_take (i := 3) (oi := ⟨some 40, _, _, _, _, _⟩) (v := .pointer (some ⟨bb, oo + lf, none⟩)) rfl (by kernel_rfl) (by kernel_rfl) (by kernel_rfl) (fun _ _ _ h => h) (Or.inl ⟨by rfl, ?_⟩) hHeld ?_
  · intro ww hS
    try dsimp only at hS
    go_simp
    try with_reducible rfl
    try omega
  try simp only [Act.put, List.setIfInBounds_toArray, List.set_cons_zero, List.set_cons_succ]
  refine wpAnyH_take (i := 4) (oi := ⟨some 41, _, _, _, _, _⟩) (v := .int .u64 ((x : Nat) : Int)) rfl (by kernel_rfl) (by kernel_rfl) (by kernel_rfl) (fun _ _ _ h => h) (Or.inl ⟨by rfl, ?_⟩) hHeld ?_
  · intro ww hS
    try dsimp only at hS
    have X := (((hS)).K.cell (p := ⟨bb, oo + lf, none⟩) hbb).trans hcc
    go_simp
    try with_reducible rfl
    try omega
  try simp only [Act.put, List.setIfInBounds_toArray, List.set_cons_zero, List.set_cons_succ]
  refine wpAnyH_take (i := 5) (oi := ⟨some 42, _, _, _, _, _⟩) (v := .pointer (some ⟨gO, 12, none⟩)) rfl (by kernel_rfl) (by kernel_rfl) (by kernel_rfl) (fun _ _ _ h => h) (Or.inl ⟨by rfl, ?_⟩) hHeld ?_
  · intro ww hS
    try dsimp only at hS
    go_simp
    try with_reducible rfl
    try omega
  try simp only [Act.put, List.setIfInBounds_toArray, List.set_cons_zero, List.set_cons_succ]
  refine wpAnyH_take (i := 6) (oi := ⟨some 43, _, _, _, _, _⟩) (v := .int .i64 (b : Int)) rfl (by kernel_rfl) (by kernel_rfl) (by kernel_rfl) (fun _ _ _ h => h) (Or.inl ⟨by rfl, ?_⟩) hHeld ?_
  · intro ww hS
    try dsimp only at hS
    have O_12 := (hS).at_ 1 12 rfl (v := .int .i64 (b : Int)) rfl
    have O_z := (hS).lt 1 rfl
    go_simp
    try with_reducible rfl
    try omega
  try simp only [Act.put, List.setIfInBounds_toArray, List.set_cons_zero, List.set_cons_succ]
  refine wpAnyH_ready (rs := [7]) (by kernel_rfl) (by simp) ?_
  refine AllReadyH.cons (o := ⟨some 44, _, _, _, _, _⟩) rfl (fun K0 hK => ?_) AllReadyH.nil
  go_simp
  refine ((TH _).out).mono ?_
  rintro e w' ⟨rfl, rfl⟩
  refine hK.out _ _ L (fun hHeld' => ?_)
  clear hHeld hK K0
  have hHeld := hHeld'
  clear hHeld'
  try simp only [Act.put, List.setIfInBounds_toArray, List.set_cons_zero, List.set_cons_succ]
  refine wpAnyH_take (i := 8) (oi := ⟨some 11, _, _, _, _, _⟩) (v := .bool true) rfl (by kernel_rfl) (by kernel_rfl) (by kernel_rfl) (fun _ _ _ h => h) (Or.inl ⟨by rfl, ?_⟩) hHeld ?_
  · intro ww hS
    try dsimp only at hS
    go_simp
    try with_reducible rfl
    try omega
  try simp only [Act.put, List.setIfInBounds_toArray, List.set_cons_zero, List.set_cons_succ]
  refine wpAnyH_done (by kernel_rfl) ?_ _
  clear hHeld
  have O_0 := L.at_ 1 0 rfl (v := .int .i64 2) rfl
  have O_3 := L.at_ 1 3 rfl (v := .int .i64 err) rfl
  have O_z := L.lt 1 rfl
  have O_f3 := L.fz 1 3 rfl
  go_upto_region 17 with fail
  clear O_0 O_3 O_z O_f3
  replace L := ((L.set 1 3 rfl (.int .i64 5)).is 1 (opv ⟨A0, n0, c0, A1, n1, c1, A2, n2, c2, A3, n3, c3⟩ ⟨2, addr, 5, aad, used, 8, shard, sought, (lf : Int), (b : Int), word, full, at_, tries, item, stamp⟩) rfl)
  try dsimp only [nput] at L
  generalize (v2).setCell ⟨gO, 3, none⟩ (.int .i64 5) = w3 at L ⊢
  have O_8 := L.at_ 1 8 rfl (v := .int .i64 8) rfl
  have O_z := L.lt 1 rfl
  have O_f8 := L.fz 1 8 rfl
  go_upto_region 18 with fail
  clear O_8 O_z O_f8
  replace L := ((L.set 1 8 rfl (.int .i64 0)).is 1 (opv ⟨A0, n0, c0, A1, n1, c1, A2, n2, c2, A3, n3, c3⟩ ⟨2, addr, 5, aad, used, 0, shard, sought, (lf : Int), (b : Int), word, full, at_, tries, item, stamp⟩) rfl)
  try dsimp only [nput] at L
  generalize (w3).setCell ⟨gO, 8, none⟩ (.int .i64 0) = w4 at L ⊢
  replace L := L.drew
  refine wp_region_held_drew (S := fun w' => ∃ v_R : Array Value, v_R.size = 20 ∧ Loc w w' [(gR, 40, v_R), (gO, 40, opv ⟨A0, n0, c0, A1, n1, c1, A2, n2, c2, A3, n3, c3⟩ ⟨2, addr, 5, aad, used, 0, shard, sought, (lf : Int), (b : Int), word, full, at_, tries, item, stamp⟩), (gH, 27, #[.int .u32 (a : Int), .int .i64 p, .slice A n c, .int .i64 (ns : Int), .int .i64 wo, .int .i64 qu, .int .i64 tr])] []) (by kernel_rfl) (⟨_, rfl, L⟩) (fun hHeld => ?_)
  generalize w4.drew = v5 at hHeld L ⊢
  refine wpAnyH_take (i := 0) (oi := ⟨some 72, _, _, _, _, _⟩) (v := .slice (some ⟨bb, oo, none⟩) m d) rfl (by kernel_rfl) (by kernel_rfl) (by kernel_rfl) (fun _ _ _ h => h) (Or.inl ⟨by rfl, ?_⟩) hHeld ?_
  · intro ww hS
    try dsimp only at hS
    go_simp
    try with_reducible rfl
    try omega
  try simp only [Act.put, List.setIfInBounds_toArray, List.set_cons_zero, List.set_cons_succ]
  refine wpAnyH_take (i := 1) (oi := ⟨some 73, _, _, _, _, _⟩) (v := .agg (opv ⟨A0, n0, c0, A1, n1, c1, A2, n2, c2, A3, n3, c3⟩ ⟨2, addr, 5, aad, used, 0, shard, sought, (lf : Int), (b : Int), word, full, at_, tries, item, stamp⟩)) rfl (by kernel_rfl) (by kernel_rfl) (by kernel_rfl) (fun _ _ _ h => h) (yieldsIf_load_row (by rfl) 40 (.tmp 5) rfl gO rfl 40 _ (0, 0) _ (fun _ hS => ((hS.choose_spec.2).bk_ 1 rfl)) Tryz.underlying40 rfl op_sz) hHeld ?_
  try simp only [Act.put, List.setIfInBounds_toArray, List.set_cons_zero, List.set_cons_succ]
  refine wpAnyH_take (i := 2) (oi := ⟨some 6, _, _, _, _, _⟩) (v := .slice (some ⟨bb, oo, none⟩) m d) rfl (by kernel_rfl) (by kernel_rfl) (by kernel_rfl) (fun _ _ _ h => h) (Or.inl ⟨by rfl, ?_⟩) hHeld ?_
  · intro ww hS
    try dsimp only at hS
    go_simp
    try with_reducible rfl
    try omega
  try simp only [Act.put, List.setIfInBounds_toArray, List.set_cons_zero, List.set_cons_succ]
  refine wpAnyH_ready (rs := [3]) (by kernel_rfl) (by simp) ?_
  refine AllReadyH.cons (o := ⟨none, _, _, _, _, _⟩) rfl (fun K0 hK => ?_) AllReadyH.nil
  rw [if_pos (by rfl)]
  refine wp_store_row 40 (.tmp 7) (.tmp 73) rfl gR _ rfl rfl _ _ (L.bk_ 0 rfl) op_sz rfl (opv_one _ _) ?_
  replace L := L.row 0 rfl (opv ⟨A0, n0, c0, A1, n1, c1, A2, n2, c2, A3, n3, c3⟩ ⟨2, addr, 5, aad, used, 0, shard, sought, (lf : Int), (b : Int), word, full, at_, tries, item, stamp⟩)
  try dsimp only [nput] at L
  refine hK.out _ _ ⟨_, rfl, L⟩ (fun hHeld' => ?_)
  clear hHeld hK K0
  have hHeld := hHeld'
  clear hHeld'
  generalize v5.setRow gR (opv ⟨A0, n0, c0, A1, n1, c1, A2, n2, c2, A3, n3, c3⟩ ⟨2, addr, 5, aad, used, 0, shard, sought, (lf : Int), (b : Int), word, full, at_, tries, item, stamp⟩) = v6 at hHeld L ⊢
  try simp only [Act.put]
  refine wpAnyH_take (i := 4) (oi := ⟨some 8, _, _, _, _, _⟩) (v := .bool true) rfl (by kernel_rfl) (by kernel_rfl) (by kernel_rfl) (fun _ _ _ h => h) (Or.inl ⟨by rfl, ?_⟩) hHeld ?_
  · intro ww hS
    try dsimp only at hS
    go_simp
    try with_reducible rfl
    try omega
  try simp only [Act.put, List.setIfInBounds_toArray, List.set_cons_zero, List.set_cons_succ]
  refine wpAnyH_done (by kernel_rfl) ?_ _
  clear hHeld
  go_wp2
  refine bodyPost_ret (v := .tuple #[.slice (some ⟨bb, oo, none⟩) m d, .agg (opv ⟨A0, n0, c0, A1, n1, c1, A2, n2, c2, A3, n3, c3⟩ ⟨2, addr, 5, aad, used, 0, shard, sought, (lf : Int), (b : Int), word, full, at_, tries, item, stamp⟩), .bool true]) ?_ rfl ?_
  · exact results_tct (fn := Tryz.f12) Tryz.results12 _ _ gR _ _ (0, 0) _ rfl (L.bk_ 0 rfl) Tryz.underlying40 rfl op_sz
  exact ⟨_, _, rfl, hU.below L.K, fun k _ h => h, L.K⟩
set_option maxRecDepth 100000 in
set_option maxHeartbeats 2000000 in
theorem xrs8_ask (ha : a < 4294967296) (hM : Much a p M) (hE : EI a M zs o s) (hY : YI M zs ys) (hU : US w B m d ys) (hph : s.phase = 8) (hk : s.kind = 5) :
    Calls Tryz.prog 12 #[.agg #[.int .u32 (a : Int), .int .i64 p, .slice A n c, .int .i64 (ns : Int), .int .i64 wo, .int .i64 qu, .int .i64 tr], .slice B m d, .agg (opv h s)] w (RetXR (eS a M ys s) h m (gC M ys s) (eB ys s) B w) := by
  have hml := hU.len
  have hyl := hY.len
  have hle := hE.le
  have hlf := hE.lf
  have hbt := hE.bt
  have gl9 := hE.fl
  have fb' := hE.fb
  have hcm : o / 32 < m := by omega
  obtain ⟨bb, oo, hBe, hbb, hcc⟩ := hU.get hcm
  subst hBe
  have hx64 := gt_lt hU.fit (o / 32)
  have TH := fun w => Lib.hid (rhas_any (gt ys (o / 32)) (o % 32) hx64 (by omega) w)
  obtain ⟨bq, hbq⟩ : ∃ bq, bq = (gt ys (o / 32)).testBit (o % 32) := ⟨_, rfl⟩
  rw [← hbq] at TH
  obtain ⟨e1, e2⟩ := es_read (a := a) (M := M) (ys := ys) hph
  obtain ⟨x, hx⟩ : ∃ x, x = gt ys (o / 32) := ⟨_, rfl⟩
  have e4 : eB ys s = true := by unfold eB; rw [if_pos hph, gl9, fb', hk]; rfl
  have e5 : xkS (gt ys s.leaf.toNat) s = qyS s bq := by unfold xkS; rw [gl9, fb', if_neg (by omega), hbq]
  rw [e1, e2, e4, e5]
  clear e1 e2 e4 e5
  rw [← hx] at hcc TH
  obtain ⟨lf, hlf2⟩ : ∃ y, y = o / 32 := ⟨_, rfl⟩
  obtain ⟨b, hb2⟩ : ∃ y, y = o % 32 := ⟨_, rfl⟩
  rw [← hlf2] at hlf hcc hcm hle
  rw [← hb2] at hbt TH
  have hcm2 : (lf : Int) < (m : Int) := by omega
  clear hx hlf2 hb2 hE hY hyl hx64 gl9 fb' ha hM hle hml hbq
  rcases s with ⟨kind, addr, err, aad, used, phase, shard, sought, leaf, bit, word, full, at_, tries, item, stamp⟩
  rcases h with ⟨A0, n0, c0, A1, n1, c1, A2, n2, c2, A3, n3, c3⟩
  try dsimp only at *
  subst hph hk hlf hbt
  go_enter Tryz.func12, Tryz.ntmps12
  go_upto_region 1 with (fail)
  have L := Loc.start w
  replace L := (((L).alloc #[.int .u32 (a : Int), .int .i64 p, .slice A n c, .int .i64 (ns : Int), .int .i64 wo, .int .i64 qu, .int .i64 tr] 27).alloc (opv ⟨A0, n0, c0, A1, n1, c1, A2, n2, c2, A3, n3, c3⟩ ⟨5, addr, err, aad, used, 8, shard, sought, (lf : Int), (b : Int), word, full, at_, tries, item, stamp⟩) 40).alloc #[.int .i64 0, .int .u32 0, .slice none 0 0, .int .i64 0, .int .u32 0, .bool false, .slice none 0 0, .slice none 0 0, .int .i64 0, .int .i64 0, .int .i64 0, .int .i64 0, .int .i64 0, .int .u64 0, .bool false, .slice none 0 0, .int .i64 0, .int .i64 0, .int .i64 0, .int .i64 0] 40
  try simp only [World.size_alloc] at L
  replace L := L.is 0 (opv hd0 sc0) rfl
  try dsimp only [nput] at L
  generalize (((w).alloc (.cells #[.int .u32 (a : Int), .int .i64 p, .slice A n c, .int .i64 (ns : Int), .int .i64 wo, .int .i64 qu, .int .i64 tr] 27)).alloc (.cells (opv ⟨A0, n0, c0, A1, n1, c1, A2, n2, c2, A3, n3, c3⟩ ⟨5, addr, err, aad, used, 8, shard, sought, (lf : Int), (b : Int), word, full, at_, tries, item, stamp⟩) 40)).alloc (.cells #[.int .i64 0, .int .u32 0, .slice none 0 0, .int .i64 0, .int .u32 0, .bool false, .slice none 0 0, .slice none 0 0, .int .i64 0, .int .i64 0, .int .i64 0, .int .i64 0, .int .i64 0, .int .u64 0, .bool false, .slice none 0 0, .int .i64 0, .int .i64 0, .int .i64 0, .int .i64 0] 40) = w1 at L ⊢
  generalize w.heap.size + 1 + 1 = gR at L ⊢
  generalize w.heap.size + 1 = gO at L ⊢
  generalize w.heap.size = gH at L ⊢
  have O_8 := L.at_ 1 8 rfl (v := .int .i64 8) rfl
  have O_z := L.lt 1 rfl
  go_upto_region 9 with fail
  clear O_8 O_z
  replace L := L.drew
  refine wp_region_held_drew (S := fun w' => Loc w w' [(gR, 40, opv hd0 sc0), (gO, 40, opv ⟨A0, n0, c0, A1, n1, c1, A2, n2, c2, A3, n3, c3⟩ ⟨5, addr, err, aad, used, 8, shard, sought, (lf : Int), (b : Int), word, full, at_, tries, item, stamp⟩), (gH, 27, #[.int .u32 (a : Int), .int .i64 p, .slice A n c, .int .i64 (ns : Int), .int .i64 wo, .int .i64 qu, .int .i64 tr])] []) (by kernel_rfl) L (fun hHeld => ?_)
  generalize w1.drew = v2 at hHeld L ⊢
  refine wpAnyH_take (i := 0) (oi := ⟨some 37, _, _, _, _, _⟩) (v := .slice (some ⟨bb, oo, none⟩) m d) rfl (by kernel_rfl) (by kernel_rfl) (by kernel_rfl) (fun _ _ _ h => h) (Or.inl ⟨by rfl, ?_⟩) hHeld ?_
  · intro ww hS
    try dsimp only at hS
    go_simp
    try with_reducible rfl
    try omega
  try simp only [Act.put, List.setIfInBounds_toArray, List.set_cons_zero, List.set_cons_succ]
  refine wpAnyH_take (i := 1) (oi := ⟨some 38, _, _, _, _, _⟩) (v := .pointer (some ⟨gO, 11, none⟩)) rfl (by kernel_rfl) (by kernel_rfl) (by kernel_rfl) (fun _ _ _ h => h) (Or.inl ⟨by rfl, ?_⟩) hHeld ?_
  · intro ww hS
    try dsimp only at hS
    go_simp
    try with_reducible rfl
    try omega
  try simp only [Act.put, List.setIfInBounds_toArray, List.set_cons_zero, List.set_cons_succ]
  refine wpAnyH_take (i := 2) (oi := ⟨some 39, _, _, _, _, _⟩) (v := .int .i64 (lf : Int)) rfl (by kernel_rfl) (by kernel_rfl) (by kernel_rfl) (fun _ _ _ h => h) (Or.inl ⟨by rfl, ?_⟩) hHeld ?_
  · intro ww hS
    try dsimp only at hS
    have O_11 := (hS).at_ 1 11 rfl (v := .int .i64 (lf : Int)) rfl
    have O_z := (hS).lt 1 rfl
    go_simp
    try with_reducible rfl
    try omega
  try simp only [Act.put, List.setIfInBounds_toArray, List.set_cons_zero, List.set_cons_succ]
  refine wpAnyH_take (i := 3) (oi := ⟨some 40, _, _, _, _, _⟩) (v := .pointer (some ⟨bb, oo + lf, none⟩)) rfl (by kernel_rfl) (by kernel_rfl) (by kernel_rfl) (fun _ _ _ h => h) (Or.inl ⟨by rfl, ?_⟩) hHeld ?_
  · intro ww hS
    try dsimp only at hS
    go_simp
    try with_reducible rfl
    try omega
  try simp only [Act.put, List.setIfInBounds_toArray, List.set_cons_zero, List.set_cons_succ]
  refine wpAnyH_take (i := 4) (oi := ⟨some 41, _, _, _, _, _⟩) (v := .int .u64 ((x : Nat) : Int)) rfl (by kernel_rfl) (by kernel_rfl) (by kernel_rfl) (fun _ _ _ h => h) (Or.inl ⟨by rfl, ?_⟩) hHeld ?_
  · intro ww hS
    try dsimp only at hS
    have X := (((hS)).K.cell (p := ⟨bb, oo + lf, none⟩) hbb).trans hcc
    go_simp
    try with_reducible rfl
    try omega
  try simp only [Act.put, List.setIfInBounds_toArray, List.set_cons_zero, List.set_cons_succ]
  refine wpAnyH_take (i := 5) (oi := ⟨some 42, _, _, _, _, _⟩) (v := .pointer (some ⟨gO, 12, none⟩)) rfl (by kernel_rfl) (by kernel_rfl) (by kernel_rfl) (fun _ _ _ h => h) (Or.inl ⟨by rfl, ?_⟩) hHeld ?_
  · intro ww hS
    try dsimp only at hS
    go_simp
    try with_reducible rfl
    try omega
  try simp only [Act.put, List.setIfInBounds_toArray, List.set_cons_zero, List.set_cons_succ]
  refine wpAnyH_take (i := 6) (oi := ⟨some 43, _, _, _, _, _⟩) (v := .int .i64 (b : Int)) rfl (by kernel_rfl) (by kernel_rfl) (by kernel_rfl) (fun _ _ _ h => h) (Or.inl ⟨by rfl, ?_⟩) hHeld ?_
  · intro ww hS
    try dsimp only at hS
    have O_12 := (hS).at_ 1 12 rfl (v := .int .i64 (b : Int)) rfl
    have O_z := (hS).lt 1 rfl
    go_simp
    try with_reducible rfl
    try omega
  try simp only [Act.put, List.setIfInBounds_toArray, List.set_cons_zero, List.set_cons_succ]
  refine wpAnyH_ready (rs := [7]) (by kernel_rfl) (by simp) ?_
  refine AllReadyH.cons (o := ⟨some 44, _, _, _, _, _⟩) rfl (fun K0 hK => ?_) AllReadyH.nil
  go_simp
  refine ((TH _).out).mono ?_
  rintro e w' ⟨rfl, rfl⟩
  refine hK.out _ _ L (fun hHeld' => ?_)
  clear hHeld hK K0
  have hHeld := hHeld'
  clear hHeld'
  try simp only [Act.put, List.setIfInBounds_toArray, List.set_cons_zero, List.set_cons_succ]
  refine wpAnyH_take (i := 8) (oi := ⟨some 11, _, _, _, _, _⟩) (v := .bool bq) rfl (by kernel_rfl) (by kernel_rfl) (by kernel_rfl) (fun _ _ _ h => h) (Or.inl ⟨by rfl, ?_⟩) hHeld ?_
  · intro ww hS
    try dsimp only at hS
    go_simp
    try with_reducible rfl
    try omega
  try simp only [Act.put, List.setIfInBounds_toArray, List.set_cons_zero, List.set_cons_succ]
  refine wpAnyH_done (by kernel_rfl) ?_ _
  clear hHeld
  have O_0 := L.at_ 1 0 rfl (v := .int .i64 5) rfl
  have O_5 := L.at_ 1 5 rfl (v := .bool used) rfl
  have O_z := L.lt 1 rfl
  have O_f5 := L.fz 1 5 rfl
  go_upto_region 17 with fail
  clear O_0 O_5 O_z O_f5
  replace L := ((L.set 1 5 rfl (.bool bq)).is 1 (opv ⟨A0, n0, c0, A1, n1, c1, A2, n2, c2, A3, n3, c3⟩ ⟨5, addr, err, aad, bq, 8, shard, sought, (lf : Int), (b : Int), word, full, at_, tries, item, stamp⟩) rfl)
  try dsimp only [nput] at L
  generalize (v2).setCell ⟨gO, 5, none⟩ (.bool bq) = w3 at L ⊢
  have O_8 := L.at_ 1 8 rfl (v := .int .i64 8) rfl
  have O_z := L.lt 1 rfl
  have O_f8 := L.fz 1 8 rfl
  go_upto_region 18 with fail
  clear O_8 O_z O_f8
  replace L := ((L.set 1 8 rfl (.int .i64 0)).is 1 (opv ⟨A0, n0, c0, A1, n1, c1, A2, n2, c2, A3, n3, c3⟩ ⟨5, addr, err, aad, bq, 0, shard, sought, (lf : Int), (b : Int), word, full, at_, tries, item, stamp⟩) rfl)
  try dsimp only [nput] at L
  generalize (w3).setCell ⟨gO, 8, none⟩ (.int .i64 0) = w4 at L ⊢
  replace L := L.drew
  refine wp_region_held_drew (S := fun w' => ∃ v_R : Array Value, v_R.size = 20 ∧ Loc w w' [(gR, 40, v_R), (gO, 40, opv ⟨A0, n0, c0, A1, n1, c1, A2, n2, c2, A3, n3, c3⟩ ⟨5, addr, err, aad, bq, 0, shard, sought, (lf : Int), (b : Int), word, full, at_, tries, item, stamp⟩), (gH, 27, #[.int .u32 (a : Int), .int .i64 p, .slice A n c, .int .i64 (ns : Int), .int .i64 wo, .int .i64 qu, .int .i64 tr])] []) (by kernel_rfl) (⟨_, rfl, L⟩) (fun hHeld => ?_)
  generalize w4.drew = v5 at hHeld L ⊢
  refine wpAnyH_take (i := 0) (oi := ⟨some 72, _, _, _, _, _⟩) (v := .slice (some ⟨bb, oo, none⟩) m d) rfl (by kernel_rfl) (by kernel_rfl) (by kernel_rfl) (fun _ _ _ h => h) (Or.inl ⟨by rfl, ?_⟩) hHeld ?_
  · intro ww hS
    try dsimp only at hS
    go_simp
    try with_reducible rfl
    try omega
  try simp only [Act.put, List.setIfInBounds_toArray, List.set_cons_zero, List.set_cons_succ]
  refine wpAnyH_take (i := 1) (oi := ⟨some 73, _, _, _, _, _⟩) (v := .agg (opv ⟨A0, n0, c0, A1, n1, c1, A2, n2, c2, A3, n3, c3⟩ ⟨5, addr, err, aad, bq, 0, shard, sought, (lf : Int), (b : Int), word, full, at_, tries, item, stamp⟩)) rfl (by kernel_rfl) (by kernel_rfl) (by kernel_rfl) (fun _ _ _ h => h) (yieldsIf_load_row (by rfl) 40 (.tmp 5) rfl gO rfl 40 _ (0, 0) _ (fun _ hS => ((hS.choose_spec.2).bk_ 1 rfl)) Tryz.underlying40 rfl op_sz) hHeld ?_
  try simp only [Act.put, List.setIfInBounds_toArray, List.set_cons_zero, List.set_cons_succ]
  refine wpAnyH_take (i := 2) (oi := ⟨some 6, _, _, _, _, _⟩) (v := .slice (some ⟨bb, oo, none⟩) m d) rfl (by kernel_rfl) (by kernel_rfl) (by kernel_rfl) (fun _ _ _ h => h) (Or.inl ⟨by rfl, ?_⟩) hHeld ?_
  · intro ww hS
    try dsimp only at hS
    go_simp
    try with_reducible rfl
    try omega
  try simp only [Act.put, List.setIfInBounds_toArray, List.set_cons_zero, List.set_cons_succ]
  refine wpAnyH_ready (rs := [3]) (by kernel_rfl) (by simp) ?_
  refine AllReadyH.cons (o := ⟨none, _, _, _, _, _⟩) rfl (fun K0 hK => ?_) AllReadyH.nil
  rw [if_pos (by rfl)]
  refine wp_store_row 40 (.tmp 7) (.tmp 73) rfl gR _ rfl rfl _ _ (L.bk_ 0 rfl) op_sz rfl (opv_one _ _) ?_
  replace L := L.row 0 rfl (opv ⟨A0, n0, c0, A1, n1, c1, A2, n2, c2, A3, n3, c3⟩ ⟨5, addr, err, aad, bq, 0, shard, sought, (lf : Int), (b : Int), word, full, at_, tries, item, stamp⟩)
  try dsimp only [nput] at L
  refine hK.out _ _ ⟨_, rfl, L⟩ (fun hHeld' => ?_)
  clear hHeld hK K0
  have hHeld := hHeld'
  clear hHeld'
  generalize v5.setRow gR (opv ⟨A0, n0, c0, A1, n1, c1, A2, n2, c2, A3, n3, c3⟩ ⟨5, addr, err, aad, bq, 0, shard, sought, (lf : Int), (b : Int), word, full, at_, tries, item, stamp⟩) = v6 at hHeld L ⊢
  try simp only [Act.put]
  refine wpAnyH_take (i := 4) (oi := ⟨some 8, _, _, _, _, _⟩) (v := .bool true) rfl (by kernel_rfl) (by kernel_rfl) (by kernel_rfl) (fun _ _ _ h => h) (Or.inl ⟨by rfl, ?_⟩) hHeld ?_
  · intro ww hS
    try dsimp only at hS
    go_simp
    try with_reducible rfl
    try omega
  try simp only [Act.put, List.setIfInBounds_toArray, List.set_cons_zero, List.set_cons_succ]
  refine wpAnyH_done (by kernel_rfl) ?_ _
  clear hHeld
  go_wp2
  refine bodyPost_ret (v := .tuple #[.slice (some ⟨bb, oo, none⟩) m d, .agg (opv ⟨A0, n0, c0, A1, n1, c1, A2, n2, c2, A3, n3, c3⟩ ⟨5, addr, err, aad, bq, 0, shard, sought, (lf : Int), (b : Int), word, full, at_, tries, item, stamp⟩), .bool true]) ?_ rfl ?_
  · exact results_tct (fn := Tryz.f12) Tryz.results12 _ _ gR _ _ (0, 0) _ rfl (L.bk_ 0 rfl) Tryz.underlying40 rfl op_sz
  exact ⟨_, _, rfl, hU.below L.K, fun k _ h => h, L.K⟩
set_option maxRecDepth 100000 in
set_option maxHeartbeats 2000000 in
theorem xrs0 (ha : a < 4294967296) (hM : Much a p M) (hE : EI a M zs o s) (hY : YI M zs ys) (hU : US w B m d ys) (hph : s.phase = 0) :
    Calls Tryz.prog 12 #[.agg #[.int .u32 (a : Int), .int .i64 p, .slice A n c, .int .i64 (ns : Int), .int .i64 wo, .int .i64 qu, .int .i64 tr], .slice B m d, .agg (opv h s)] w (RetXR (eS a M ys s) h m (gC M ys s) (eB ys s) B w) := by
  obtain ⟨e1, e2, e3⟩ := es_done (a := a) (M := M) (ys := ys) hph
  rw [e1, e2, e3]
  clear e1 e2 e3 hE hY ha hM
  rcases s with ⟨kind, addr, err, aad, used, phase, shard, sought, leaf, bit, word, full, at_, tries, item, stamp⟩
  rcases h with ⟨A0, n0, c0, A1, n1, c1, A2, n2, c2, A3, n3, c3⟩
  try dsimp only at *
  subst hph
  go_enter Tryz.func12, Tryz.ntmps12
  go_upto_region 1 with (fail)
  have L := Loc.start w
  replace L := (((L).alloc #[.int .u32 (a : Int), .int .i64 p, .slice A n c, .int .i64 (ns : Int), .int .i64 wo, .int .i64 qu, .int .i64 tr] 27).alloc (opv ⟨A0, n0, c0, A1, n1, c1, A2, n2, c2, A3, n3, c3⟩ ⟨kind, addr, err, aad, used, 0, shard, sought, leaf, bit, word, full, at_, tries, item, stamp⟩) 40).alloc #[.int .i64 0, .int .u32 0, .slice none 0 0, .int .i64 0, .int .u32 0, .bool false, .slice none 0 0, .slice none 0 0, .int .i64 0, .int .i64 0, .int .i64 0, .int .i64 0, .int .i64 0, .int .u64 0, .bool false, .slice none 0 0, .int .i64 0, .int .i64 0, .int .i64 0, .int .i64 0] 40
  try simp only [World.size_alloc] at L
  replace L := L.is 0 (opv hd0 sc0) rfl
  try dsimp only [nput] at L
  generalize (((w).alloc (.cells #[.int .u32 (a : Int), .int .i64 p, .slice A n c, .int .i64 (ns : Int), .int .i64 wo, .int .i64 qu, .int .i64 tr] 27)).alloc (.cells (opv ⟨A0, n0, c0, A1, n1, c1, A2, n2, c2, A3, n3, c3⟩ ⟨kind, addr, err, aad, used, 0, shard, sought, leaf, bit, word, full, at_, tries, item, stamp⟩) 40)).alloc (.cells #[.int .i64 0, .int .u32 0, .slice none 0 0, .int .i64 0, .int .u32 0, .bool false, .slice none 0 0, .slice none 0 0, .int .i64 0, .int .i64 0, .int .i64 0, .int .i64 0, .int .i64 0, .int .u64 0, .bool false, .slice none 0 0, .int .i64 0, .int .i64 0, .int .i64 0, .int .i64 0] 40) = w1 at L ⊢
  generalize w.heap.size + 1 + 1 = gR at L ⊢
  generalize w.heap.size + 1 = gO at L ⊢
  generalize w.heap.size = gH at L ⊢
  have O_8 := L.at_ 1 8 rfl (v := .int .i64 0) rfl
  have O_z := L.lt 1 rfl
  go_upto_region 19 with fail
  clear O_8 O_z
  replace L := L.drew
  refine wp_region_held_drew (S := fun w' => ∃ v_R : Array Value, v_R.size = 20 ∧ Loc w w' [(gR, 40, v_R), (gO, 40, opv ⟨A0, n0, c0, A1, n1, c1, A2, n2, c2, A3, n3, c3⟩ ⟨kind, addr, err, aad, used, 0, shard, sought, leaf, bit, word, full, at_, tries, item, stamp⟩), (gH, 27, #[.int .u32 (a : Int), .int .i64 p, .slice A n c, .int .i64 (ns : Int), .int .i64 wo, .int .i64 qu, .int .i64 tr])] []) (by kernel_rfl) (⟨_, rfl, L⟩) (fun hHeld => ?_)
  generalize w1.drew = v2 at hHeld L ⊢
  refine wpAnyH_take (i := 0) (oi := ⟨some 74, _, _, _, _, _⟩) (v := .slice B m d) rfl (by kernel_rfl) (by kernel_rfl) (by kernel_rfl) (fun _ _ _ h => h) (Or.inl ⟨by rfl, ?_⟩) hHeld ?_
  · intro ww hS
    try dsimp only at hS
    go_simp
    try with_reducible rfl
    try omega
  try simp only [Act.put, List.setIfInBounds_toArray, List.set_cons_zero, List.set_cons_succ]
  refine wpAnyH_take (i := 1) (oi := ⟨some 75, _, _, _, _, _⟩) (v := .agg (opv ⟨A0, n0, c0, A1, n1, c1, A2, n2, c2, A3, n3, c3⟩ ⟨kind, addr, err, aad, used, 0, shard, sought, leaf, bit, word, full, at_, tries, item, stamp⟩)) rfl (by kernel_rfl) (by kernel_rfl) (by kernel_rfl) (fun _ _ _ h => h) (yieldsIf_load_row (by rfl) 40 (.tmp 5) rfl gO rfl 40 _ (0, 0) _ (fun _ hS => ((hS.choose_spec.2).bk_ 1 rfl)) Tryz.underlying40 rfl op_sz) hHeld ?_
  try simp only [Act.put, List.setIfInBounds_toArray, List.set_cons_zero, List.set_cons_succ]
  refine wpAnyH_take (i := 2) (oi := ⟨some 6, _, _, _, _, _⟩) (v := .slice B m d) rfl (by kernel_rfl) (by kernel_rfl) (by kernel_rfl) (fun _ _ _ h => h) (Or.inl ⟨by rfl, ?_⟩) hHeld ?_
  · intro ww hS
    try dsimp only at hS
    go_simp
    try with_reducible rfl
    try omega
  try simp only [Act.put, List.setIfInBounds_toArray, List.set_cons_zero, List.set_cons_succ]
  refine wpAnyH_ready (rs := [3]) (by kernel_rfl) (by simp) ?_
  refine AllReadyH.cons (o := ⟨none, _, _, _, _, _⟩) rfl (fun K0 hK => ?_) AllReadyH.nil
  rw [if_pos (by rfl)]
  refine wp_store_row 40 (.tmp 7) (.tmp 75) rfl gR _ rfl rfl _ _ (L.bk_ 0 rfl) op_sz rfl (opv_one _ _) ?_
  replace L := L.row 0 rfl (opv ⟨A0, n0, c0, A1, n1, c1, A2, n2, c2, A3, n3, c3⟩ ⟨kind, addr, err, aad, used, 0, shard, sought, leaf, bit, word, full, at_, tries, item, stamp⟩)
  try dsimp only [nput] at L
  refine hK.out _ _ ⟨_, rfl, L⟩ (fun hHeld' => ?_)
  clear hHeld hK K0
  have hHeld := hHeld'
  clear hHeld'
  generalize v2.setRow gR (opv ⟨A0, n0, c0, A1, n1, c1, A2, n2, c2, A3, n3, c3⟩ ⟨kind, addr, err, aad, used, 0, shard, sought, leaf, bit, word, full, at_, tries, item, stamp⟩) = v3 at hHeld L ⊢
  try simp only [Act.put]
  refine wpAnyH_take (i := 4) (oi := ⟨some 8, _, _, _, _, _⟩) (v := .bool false) rfl (by kernel_rfl) (by kernel_rfl) (by kernel_rfl) (fun _ _ _ h => h) (Or.inl ⟨by rfl, ?_⟩) hHeld ?_
  · intro ww hS
    try dsimp only at hS
    go_simp
    try with_reducible rfl
    try omega
  try simp only [Act.put, List.setIfInBounds_toArray, List.set_cons_zero, List.set_cons_succ]
  refine wpAnyH_done (by kernel_rfl) ?_ _
  clear hHeld
  go_wp2
  refine bodyPost_ret (v := .tuple #[.slice B m d, .agg (opv ⟨A0, n0, c0, A1, n1, c1, A2, n2, c2, A3, n3, c3⟩ ⟨kind, addr, err, aad, used, 0, shard, sought, leaf, bit, word, full, at_, tries, item, stamp⟩), .bool false]) ?_ rfl ?_
  · exact results_tct (fn := Tryz.f12) Tryz.results12 _ _ gR _ _ (0, 0) _ rfl (L.bk_ 0 rfl) Tryz.underlying40 rfl op_sz
  exact ⟨_, _, rfl, hU.below L.K, fun k _ h => h, L.K⟩
theorem xrs_any (ha : a < 4294967296) (hM : Much a p M) (hE : EI a M zs o s) (hY : YI M zs ys) (hU : US w B m d ys) :
    Calls Tryz.prog 12 #[.agg #[.int .u32 (a : Int), .int .i64 p, .slice A n c, .int .i64 (ns : Int), .int .i64 wo, .int .i64 qu, .int .i64 tr], .slice B m d, .agg (opv h s)] w (RetXR (eS a M ys s) h m (gC M ys s) (eB ys s) B w) := by
  rcases hE.ph with ⟨h, _⟩ | ⟨h, _⟩ | ⟨h | h, _⟩ | ⟨h, _⟩
  · rcases hE.kd with hk | hk
    · cases hb : (gt ys (o / 32)).testBit (o % 32) with
      | false => exact xrs8_take ha hM hE hY hU h hk hb
      | true => exact xrs8_used ha hM hE hY hU h hk hb
    · exact xrs8_ask ha hM hE hY hU h hk
  · exact xrs3 ha hM hE hY hU h
  · exact xrs4 ha hM hE hY hU h
  · exact xrs5 ha hM hE hY hU h
  · exact xrs0 ha hM hE hY hU h
end
end Go.Proofs.YtacgjaohfcoigaaGreat

/-
  What the law's right answers. Conditions: lists in memory; what the request's list holds fits 32 bits.
-/
namespace Go.Proofs.YtacgjaohfcoigaaGreat
set_option maxRecDepth 100000
set_option maxRecDepth 100000
open Go.RowKit
set_option linter.unusedVariables false
/-- What is known of a request that is right. -/
def RightP (a : Nat) (p : Int) (n : Nat) (zs : List Int) (sh : Int) (m : Nat) (kd : Int) (X : Nat) : Prop :=
  (∃ M ns, Cg a p n zs sh M ns ∧ fiE a M X zs = 0) ∧ m ≤ 100 ∧ (kd = 2 ∨ kd = 5)
section
variable {w : World} {lo lo2 a m d X : Nat} {p sh wo qu tr kd : Int} {A B : Option Addr} {n c : Nat} {zs ys : List Int}
set_option maxRecDepth 100000 in
set_option maxHeartbeats 2000000 in
theorem right_any (ha : a < 4294967296) (h0 : IS .i64 lo w A n c zs) (hs : IS .u32 lo2 w B m d ys) (hX : X < 4294967296) (hw : W32 ys) :
    Calls Tryz.prog 5 #[.agg #[.int .u32 (a : Int), .int .i64 p, .slice A n c, .int .i64 sh, .int .i64 wo, .int .i64 qu, .int .i64 tr], .agg #[.int .i64 kd, .int .u32 (X : Int), .slice B m d]] w (RetW (RightP a p n zs sh m kd X) w) := by
  go_enter Tryz.func5, Tryz.ntmps5
  go_upto_region 1 with (fail)
  have L := Loc.start w
  replace L := ((L).alloc #[.int .u32 (a : Int), .int .i64 p, .slice A n c, .int .i64 sh, .int .i64 wo, .int .i64 qu, .int .i64 tr] 27).alloc #[.int .i64 kd, .int .u32 (X : Int), .slice B m d] 30
  try simp only [World.size_alloc] at L
  try dsimp only [nput] at L
  generalize ((w).alloc (.cells #[.int .u32 (a : Int), .int .i64 p, .slice A n c, .int .i64 sh, .int .i64 wo, .int .i64 qu, .int .i64 tr] 27)).alloc (.cells #[.int .i64 kd, .int .u32 (X : Int), .slice B m d] 30) = w1 at L ⊢
  generalize w.heap.size + 1 = gG at L ⊢
  generalize w.heap.size = gH at L ⊢
  go_wp2_with (refine wpList_load_row rfl 27 (.tmp 2) rfl gH rfl _ _ (0, 0) _ (L.bk_ 1 rfl) Tryz.underlying27 rfl cf_sz ?_)
  refine (small_any ha (h0.below L.K)).mono ?_
  rintro e w2 ⟨bo, rfl, hB, K'⟩
  replace L := L.over K'
  rcases bo with _ | _
  · go_wp2
    go_ret
    exact ⟨false, rfl, (fun e => by cases e), L.K⟩
  replace hB := hB rfl
  obtain ⟨M, ns, hC⟩ := hB
  have hM := hC.much
  have hn := hC.few
  replace hC := Lib.hid hC
  go_wp2_with (refine wpList_load_want (by rfl) 30 (.tmp 3) rfl gG rfl _ _ (0, 0) _ (L.bk_ 0 rfl) Tryz.underlying30 rfl ak_sz ?_)
  by_cases hf : m ≤ 100
  · refine (few_yes (hs.below L.K) hf).mono ?_
    rintro e w3 ⟨rfl, K'⟩
    replace L := L.over K'
    have G_0 := L.at_ 0 0 rfl (v := .int .i64 kd) rfl
    have G_z := L.lt 0 rfl
    by_cases h2 : kd = 2 ∨ kd = 5
    · have hR := (rcheck_any (w := w3) (sh := sh) (wo := wo) (qu := qu) (tr := tr) (k := kd) hM (h0.below L.K) (by omega) (hs.below L.K) (by omega) hX hw)
      rw [askE_one (by omega), Int.toNat_natCast] at hR
      replace hR := Lib.hid hR
      have hP : fiE a M X zs = 0 → RightP a p n zs sh m kd X := fun e => ⟨⟨M, ns, hC.out, e⟩, hf, h2⟩
      replace hP := Lib.hid hP
      have hu : ∀ e : Int, (e == 0) = decide (e = 0) := fun e => rfl
      rcases h2 with rfl | rfl
      · go_wp2_with (first | (refine wpList_load_want (by rfl) 27 (.tmp 2) rfl gH rfl _ _ (0, 0) _ (L.bk_ 1 rfl) Tryz.underlying27 rfl cf_sz ?_) | (refine wpList_load_want (by rfl) 30 (.tmp 3) rfl gG rfl _ _ (0, 0) _ (L.bk_ 0 rfl) Tryz.underlying30 rfl ak_sz ?_))
        refine (hR.out).mono ?_
        rintro e w4 ⟨rfl, K'⟩
        replace L := L.over K'
        generalize fiE a M X zs = er at hP ⊢
        go_wp2
        go_ret
        exact ⟨_, rfl, (fun e => hP.out (by simpa using e)), L.K⟩
      · go_wp2_with (first | (refine wpList_load_want (by rfl) 27 (.tmp 2) rfl gH rfl _ _ (0, 0) _ (L.bk_ 1 rfl) Tryz.underlying27 rfl cf_sz ?_) | (refine wpList_load_want (by rfl) 30 (.tmp 3) rfl gG rfl _ _ (0, 0) _ (L.bk_ 0 rfl) Tryz.underlying30 rfl ak_sz ?_))
        refine (hR.out).mono ?_
        rintro e w4 ⟨rfl, K'⟩
        replace L := L.over K'
        generalize fiE a M X zs = er at hP ⊢
        go_wp2
        go_ret
        exact ⟨_, rfl, (fun e => hP.out (by simpa using e)), L.K⟩
    · have k2 : (kd == 2) = false := by simp; omega
      have k5 : (kd == 5) = false := by simp; omega
      go_wp2_with (rw [k2])
      go_ret
      exact ⟨false, rfl, (fun e => by cases e), L.K⟩
  · refine (few_no (hs.below L.K) hf).mono ?_
    rintro e w3 ⟨rfl, K'⟩
    replace L := L.over K'
    go_wp2
    go_ret
    exact ⟨false, rfl, (fun e => by cases e), L.K⟩
end
end Go.Proofs.YtacgjaohfcoigaaGreat

/-
  What the steps that an exact grant is made of answer of it, and two operations of one kind held beside each other. Conditions: a block that may be, as many cells as there are.
-/
namespace Go.Proofs.YtacgjaohfcoigaaGreat
set_option maxRecDepth 100000
set_option maxRecDepth 100000
open Go.RowKit
set_option linter.unusedVariables false
theorem row_w32 {W : World} {A : Option Addr} {n c : Nat} {z : List Int} (h : IsRow .u32 W A n c z) : ∃ ys, IS .u32 0 W A n c ys ∧ W32 ys := by
  obtain ⟨ys, hI, hw⟩ := IS.of_row h
  refine ⟨ys, hI, fun y hy => ?_⟩
  obtain ⟨Y, e, hY⟩ := wf_u32 (hw y hy)
  omega
theorem fi_in {a M X : Nat} {zs : List Int} (h : fiE a M X zs = 0) : ∃ o, X = a + o ∧ o < M ∧ hasB zs (o : Int) = false := by
  unfold fiE at h
  split at h
  · rename_i hr
    split at h
    · omega
    · rename_i hh
      exact ⟨X - a, by omega, by omega, by simpa using hh⟩
  · omega
section
variable {w w1 : World} {lo lo2 a m d M ns N o n0 c0 : Nat} {p wo qu tr : Int} {A B A0 : Option Addr} {n c : Nat} {zs xs : List Int} {ys : List Nat} {h h' : Hd} {s : Sc}
theorem gx_claim (ha : a < 4294967296) (hM : Much a p M) (hE : EI a M zs o s) (hY : YI M zs ys) (hU : US w B m d ys) (hL : Lists lo w h ⟨xs, [], [], []⟩) (hx : xs.length ≤ 65536) (hph : s.phase = 3) :
    Calls Tryz.prog 80 #[.agg #[.int .u32 (a : Int), .int .i64 p, .slice A n c, .int .i64 (ns : Int), .int .i64 wo, .int .i64 qu, .int .i64 tr], .slice B m d, .agg (opv h s)] w (RetX (eS a M ys s) ⟨xs, [], [], []⟩ m (gC M ys s) (eB ys s) B w) := by
  obtain ⟨z0, z1, z2, z3⟩ := hL.emp_
  simp only [List.length_nil] at z1 z2 z3
  dsimp only at z0
  have hml := hU.len
  have hyl := hY.len
  have hlv := lv_le hM.most
  have htv := tv_le hM.most
  have hle := hE.le
  have hoM := hE.oM
  obtain ⟨e1, e2, e3⟩ := es_claim (a := a) (M := M) (ys := ys) hph
  rw [e1, e2, e3, hE.fl]
  have R := cstep_claim (w := w) (a := a) (p := p) (sh := (ns : Int)) (wo := wo) (qu := qu) (tr := tr) (A := A) (n := n) (c := c) (xs := xs) ha hM hL.i0 (by omega) (fun h4 => absurd h4 hE.k4) hL (by omega) (by omega) (by omega) hU (by omega) hE.lf (by omega) hE.bt (by omega) (by omega) hE.wd hph
  rw [claimS_no hE.k4] at R
  refine R.mono ?_
  rintro e w' ⟨A0, c0, A1, n1, c1, A2, n2, c2, A3, n3, c3, B', d', rfl, U, L', hA, K⟩
  exact ⟨_, _, _, rfl, U, L', hA, K⟩
theorem gx_mark (ha : a < 4294967296) (hM : Much a p M) (hE : EI a M zs o s) (hY : YI M zs ys) (hU : US w B m d ys) (hL : Lists lo w h ⟨xs, [], [], []⟩) (hx : xs.length ≤ 65536) (hph : s.phase = 4 ∨ s.phase = 5) :
    Calls Tryz.prog 81 #[.agg #[.int .u32 (a : Int), .int .i64 p, .slice A n c, .int .i64 (ns : Int), .int .i64 wo, .int .i64 qu, .int .i64 tr], .slice B m d, .agg (opv h s)] w fun e w' => ∃ h' B' d', e = .returned (.tuple #[.slice B' m d', .agg (opv h' (eS a M ys s))]) ∧ US w' B' m d' (gC M ys s) ∧ Lists w.heap.size w' h' ⟨xs, [], [], []⟩ ∧ (∀ k, k < w.heap.size → Apart k B → Apart k B') ∧ Below w.heap.size w w' := by
  obtain ⟨z0, z1, z2, z3⟩ := hL.emp_
  simp only [List.length_nil] at z1 z2 z3
  dsimp only at z0
  have hml := hU.len
  have hyl := hY.len
  have hle := hE.le
  obtain ⟨e1, e2, _⟩ := es_mark (a := a) (M := M) (ys := ys) hph
  rw [e1, e2]
  have hk4 := hE.k4
  obtain ⟨oM, hh, kd, lf, bt', it, wd, ph⟩ := hE
  have hat : s.at_ = 0 ∨ s.at_ = 1 := by
    rcases ph with ⟨h, _⟩ | ⟨h, _⟩ | ⟨_, _, q3, q4, _⟩ | ⟨h, _⟩
    · omega
    · omega
    · exact q4
    · omega
  have R := step_any (w := w) (a := a) (p := p) (sh := (ns : Int)) (wo := wo) (qu := qu) (tr := tr) (A := A) (n := n) (c := c) (xs := xs) ha hM (by omega) hL.i0 (fun h4 => absurd h4 hk4) hL (by omega) (by omega) (by omega) hU (by omega) lf hle hat hph wd
  rw [stO_no hk4] at R
  refine R.mono ?_
  rintro e w' ⟨A0, c0, A1, c1, A2, c2, A3, c3, B', d', rfl, U, L', hA, K⟩
  exact ⟨_, _, _, rfl, U, L', hA, K⟩
theorem xsame_any {lo' : Nat} (L : Lists lo w h ⟨xs, [], [], []⟩) (L' : Lists lo' w h' ⟨xs, [], [], []⟩) (hx : xs.length ≤ 65536) :
    Calls Tryz.prog 8 #[.agg (opv h s), .agg (opv h' s)] w (RetBo true w) := by
  obtain ⟨a0, a1, a2, a3⟩ := L.emp_
  obtain ⟨b0, b1, b2, b3⟩ := L'.emp_
  rcases h with ⟨A0, n0, c0, A1, n1, c1, A2, n2, c2, A3, n3, c3⟩
  rcases h' with ⟨B0, m0, e0, B1, m1, e1, B2, m2, e2, B3, m3, e3⟩
  dsimp only [List.length_nil] at a0 a1 a2 a3 b0 b1 b2 b3
  subst a0 a1 a2 a3 b0 b1 b2 b3
  exact sameop_any (xs := xs) (L.i0.lower (Nat.zero_le _)) (L'.i0.lower (Nat.zero_le _)) L L' (fun x hx => by cases hx) (by omega) (by omega) (by omega) (by omega)
end
end Go.Proofs.YtacgjaohfcoigaaGreat

/-
  What lodger/exact.Begin and .Step answer. Conditions: a block that may be, a request that is right, as many cells as there are.
-/
namespace Go.Proofs.YtacgjaohfcoigaaGreat
set_option maxRecDepth 100000
set_option maxRecDepth 100000
open Go.RowKit
set_option linter.unusedVariables false
theorem op2_info : (Tryz.prog.info? 72).map (·.size) = some 20 := by kernel_rfl
theorem op2_sz {h : Hd} {s : Sc} : (Tryz.prog.info? 72).map (·.size) = some (opv h s).size := by rw [opv_size]; exact op2_info
/-- What a step's function answers: RetX over lists that lie from lo on. -/
def RetXL (lo : Nat) (s : Sc) (l : Ls) (m : Nat) (ys : List Nat) (b : Bool) (B0 : Option Addr) (w : World) (e : Ending) (w' : World) : Prop :=
  ∃ h' B d, e = .returned (.tuple #[.slice B m d, .agg (opv h' s), .bool b]) ∧ US w' B m d ys ∧ Lists lo w' h' l ∧ (∀ k, k < w.heap.size → Apart k B0 → Apart k B) ∧ Below w.heap.size w w'
theorem ownx {w : World} {lo : Nat} {h : Hd} {s : Sc} {l : Ls} (L : Lists lo w h l) (h0 : h.n0 ≤ 65536) (h1 : h.n1 ≤ 65536) (h2 : h.n2 ≤ 65536) (h3 : h.n3 ≤ 65536) :
    Calls Tryz.prog 19 #[.agg (opv h s)] w fun e w' => ∃ h3, e = .returned (.agg (opv h3 s)) ∧ Lists w.heap.size w' h3 l ∧ Below w.heap.size w w' :=
  (own_any L h0 h1 h2 h3).mono fun e w' ⟨_, _, _, _, _, _, _, _, e1, L', K⟩ => ⟨_, e1, L', K⟩
section
variable {w w1 : World} {lo lo2 a m d M ns N o lf b X f n0 c0 : Nat} {p wo qu tr kd : Int} {A B A0 : Option Addr} {n c : Nat} {zs xs : List Int} {ys : List Nat} {h : Hd} {l : Ls} {s : Sc}
set_option maxRecDepth 100000 in
set_option maxHeartbeats 2000000 in
theorem xbegin_any (ha : a < 4294967296) (hM : Much a p M) (hX : X < 4294967296) (hx : X = a + o) (hoM : o < M) (hI : IS .u32 lo2 w A0 n0 c0 xs) (hn0 : n0 ≤ 65536) :
    Calls Tryz.prog 6 #[.agg #[.int .u32 (a : Int), .int .i64 p, .slice A n c, .int .i64 (ns : Int), .int .i64 wo, .int .i64 qu, .int .i64 tr], .agg #[.int .i64 kd, .int .u32 (X : Int), .slice A0 n0 c0]] w (RetXB (eS0 kd (X : Int) o) xs ⟨A0, n0, c0, none, 0, 0, none, 0, 0, none, 0, 0⟩ w) := by
  have hm9 := hM.most
  obtain ⟨lf, hlf⟩ : ∃ y, y = o / 32 := ⟨_, rfl⟩
  obtain ⟨b, hb⟩ : ∃ y, y = o % 32 := ⟨_, rfl⟩
  have hS : eS0 kd (X : Int) o = ⟨kd, (X : Int), 0, 0, false, 8, 0, 0, (lf : Int), (b : Int), 0, false, 0, 0, 0, 0⟩ := by unfold eS0; rw [← hlf, ← hb]
  rw [hS]
  clear hS
  have TO := fun w => Lib.hid (by have R := offset_in (w := w) (p := p) X hX ha hM (by omega) (by omega); rw [show X - a = o by omega] at R; exact R)
  have TL := fun w => Lib.hid (leaf_any o (by omega) w)
  rw [← hlf, ← hb] at TL
  have hL0 : Lists 0 w ⟨A0, n0, c0, none, 0, 0, none, 0, 0, none, 0, 0⟩ ⟨xs, [], [], []⟩ := ⟨hI.lower (Nat.zero_le _), IS.none_ _ _ _, IS.none_ _ _ _, IS.none_ _ _ _⟩
  have TOwn := fun w (L : Lists 0 w ⟨A0, n0, c0, none, 0, 0, none, 0, 0, none, 0, 0⟩ ⟨xs, [], [], []⟩) => Lib.hid (ownx (s := ⟨kd, (X : Int), 0, 0, false, 8, 0, 0, (lf : Int), (b : Int), 0, false, 0, 0, 0, 0⟩) L hn0 (Nat.zero_le _) (Nat.zero_le _) (Nat.zero_le _))
  clear hlf hb hx hoM hm9 hM hX
  go_enter Tryz.func6, Tryz.ntmps6
  go_upto_region 1 with (fail)
  have L := Loc.start w
  replace L := (((L).alloc #[.int .u32 (a : Int), .int .i64 p, .slice A n c, .int .i64 (ns : Int), .int .i64 wo, .int .i64 qu, .int .i64 tr] 27).alloc #[.int .i64 kd, .int .u32 (X : Int), .slice A0 n0 c0] 30).alloc #[.int .i64 0, .int .u32 0, .slice none 0 0, .int .i64 0, .int .u32 0, .bool false, .slice none 0 0, .slice none 0 0, .int .i64 0, .int .i64 0, .int .i64 0, .int .i64 0, .int .i64 0, .int .u64 0, .bool false, .slice none 0 0, .int .i64 0, .int .i64 0, .int .i64 0, .int .i64 0] 40
  try simp only [World.size_alloc] at L
  replace L := L.is 0 (opv hd0 sc0) rfl
  try dsimp only [nput] at L
  generalize (((w).alloc (.cells #[.int .u32 (a : Int), .int .i64 p, .slice A n c, .int .i64 (ns : Int), .int .i64 wo, .int .i64 qu, .int .i64 tr] 27)).alloc (.cells #[.int .i64 kd, .int .u32 (X : Int), .slice A0 n0 c0] 30)).alloc (.cells #[.int .i64 0, .int .u32 0, .slice none 0 0, .int .i64 0, .int .u32 0, .bool false, .slice none 0 0, .slice none 0 0, .int .i64 0, .int .i64 0, .int .i64 0, .int .i64 0, .int .i64 0, .int .u64 0, .bool false, .slice none 0 0, .int .i64 0, .int .i64 0, .int .i64 0, .int .i64 0] 40) = w1 at L ⊢
  generalize w.heap.size + 1 + 1 = gR at L ⊢
  generalize w.heap.size + 1 = gQ at L ⊢
  generalize w.heap.size = gH at L ⊢
  have H_0 := L.at_ 2 0 rfl (v := .int .u32 (a : Int)) rfl
  have H_1 := L.at_ 2 1 rfl (v := .int .i64 p) rfl
  have Q_1 := L.at_ 1 1 rfl (v := .int .u32 (X : Int)) rfl
  have H_z := L.lt 2 rfl
  have Q_z := L.lt 1 rfl
  go_wp2_with fail
  refine ((TO _).out).mono ?_
  rintro e w2 ⟨rfl, K'⟩
  clear H_0 H_1 Q_1 H_z Q_z
  replace L := L.over K'
  go_wp2_with fail
  refine ((TL _).out).mono ?_
  rintro e w' ⟨rfl, rfl⟩
  go_wp2_with (refine wpList_load_row rfl 30 (.tmp 3) rfl gQ rfl _ _ (0, 0) _ (L.bk_ 1 rfl) Tryz.underlying30 rfl ak_sz ?_)
  have KS := L.K.size
  refine ((TOwn _ (hL0.below L.K)).out).mono ?_
  rintro e w3 ⟨h3, rfl, L', K'⟩
  have Lb := L.lts
  replace L := L.over K'
  replace L := L.lists Lb L'
  clear Lb
  try dsimp only [lF, List.cons_append, List.nil_append] at L
  clear L'
  go_wp2_with (refine wpList_store_row rfl 40 (.tmp 4) (.tmp 26) rfl gR _ rfl rfl _ _ (L.bk_ 0 rfl) op_sz rfl (opv_one _ _) ?_)
  replace L := (L.row 0 rfl (opv h3 ⟨kd, (X : Int), 0, 0, false, 8, 0, 0, (lf : Int), (b : Int), 0, false, 0, 0, 0, 0⟩))
  try dsimp only [nput] at L
  generalize (w3).setRow gR (opv h3 ⟨kd, (X : Int), 0, 0, false, 8, 0, 0, (lf : Int), (b : Int), 0, false, 0, 0, 0, 0⟩) = w4 at L ⊢
  refine bodyPost_ret (v := .agg (opv h3 ⟨kd, (X : Int), 0, 0, false, 8, 0, 0, (lf : Int), (b : Int), 0, false, 0, 0, 0, 0⟩)) ?_ rfl ?_
  · exact results_cell_row (fn := Tryz.f6) Tryz.results6 _ _ gR _ _ (0, 0) _ rfl (L.bk_ 0 rfl) Tryz.underlying40 rfl op_sz
  exact ⟨_, rfl, (L.lists_at (l := ⟨xs, [], [], []⟩) 0 rfl).lower_ (Nat.zero_le _), sao_new (L.lists_at (l := ⟨xs, [], [], []⟩) 0 rfl) KS, L.K⟩
set_option maxRecDepth 100000 in
set_option maxHeartbeats 2000000 in
theorem xph8 (hph : s.phase = 8) :
    Calls Tryz.prog 37 #[.agg (opv h s)] w fun e w' => e = .returned (.func (.func 63) #[.agg (opv h s)] #[]) ∧ Below w.heap.size w w' := by
  have e0 := hph
  rcases s with ⟨kind, addr, err, aad, used, phase, shard, sought, leaf, bit, word, full, at_, tries, item, stamp⟩
  rcases h with ⟨A0, n0, c0, A1, n1, c1, A2, n2, c2, A3, n3, c3⟩
  try dsimp only at *
  subst hph
  clear e0
  go_enter Tryz.func37, Tryz.ntmps37
  go_upto_region 1 with (fail)
  have L := Loc.start w
  replace L := (L).alloc (opv ⟨A0, n0, c0, A1, n1, c1, A2, n2, c2, A3, n3, c3⟩ ⟨kind, addr, err, aad, used, 8, shard, sought, leaf, bit, word, full, at_, tries, item, stamp⟩) 72
  try simp only [World.size_alloc] at L
  try dsimp only [nput] at L
  generalize (w).alloc (.cells (opv ⟨A0, n0, c0, A1, n1, c1, A2, n2, c2, A3, n3, c3⟩ ⟨kind, addr, err, aad, used, 8, shard, sought, leaf, bit, word, full, at_, tries, item, stamp⟩) 72) = w1 at L ⊢
  generalize w.heap.size = gO at L ⊢
  have O_8 := L.at_ 0 8 rfl (v := .int .i64 8) rfl
  have O_z := L.lt 0 rfl
  go_wp2_with (refine wpList_load_row rfl 72 (.tmp 1) rfl gO rfl _ _ (0, 0) _ (L.bk_ 0 rfl) Tryz.underlying72 rfl op2_sz ?_)
  clear O_8 O_z
  go_ret
  exact ⟨rfl, L.K⟩
set_option maxRecDepth 100000 in
set_option maxHeartbeats 2000000 in
theorem xph3 (hph : s.phase = 3) :
    Calls Tryz.prog 37 #[.agg (opv h s)] w fun e w' => e = .returned (.func (.func 64) #[.agg (opv h s)] #[]) ∧ Below w.heap.size w w' := by
  have e0 := hph
  rcases s with ⟨kind, addr, err, aad, used, phase, shard, sought, leaf, bit, word, full, at_, tries, item, stamp⟩
  rcases h with ⟨A0, n0, c0, A1, n1, c1, A2, n2, c2, A3, n3, c3⟩
  try dsimp only at *
  subst hph
  clear e0
  go_enter Tryz.func37, Tryz.ntmps37
  go_upto_region 1 with (fail)
  have L := Loc.start w
  replace L := (L).alloc (opv ⟨A0, n0, c0, A1, n1, c1, A2, n2, c2, A3, n3, c3⟩ ⟨kind, addr, err, aad, used, 3, shard, sought, leaf, bit, word, full, at_, tries, item, stamp⟩) 72
  try simp only [World.size_alloc] at L
  try dsimp only [nput] at L
  generalize (w).alloc (.cells (opv ⟨A0, n0, c0, A1, n1, c1, A2, n2, c2, A3, n3, c3⟩ ⟨kind, addr, err, aad, used, 3, shard, sought, leaf, bit, word, full, at_, tries, item, stamp⟩) 72) = w1 at L ⊢
  generalize w.heap.size = gO at L ⊢
  have O_8 := L.at_ 0 8 rfl (v := .int .i64 3) rfl
  have O_z := L.lt 0 rfl
  go_wp2_with (refine wpList_load_row rfl 72 (.tmp 1) rfl gO rfl _ _ (0, 0) _ (L.bk_ 0 rfl) Tryz.underlying72 rfl op2_sz ?_)
  clear O_8 O_z
  go_ret
  exact ⟨rfl, L.K⟩
set_option maxRecDepth 100000 in
set_option maxHeartbeats 2000000 in
theorem xph4 (hph : s.phase = 4) :
    Calls Tryz.prog 37 #[.agg (opv h s)] w fun e w' => e = .returned (.func (.func 65) #[.agg (opv h s)] #[]) ∧ Below w.heap.size w w' := by
  have e0 := hph
  rcases s with ⟨kind, addr, err, aad, used, phase, shard, sought, leaf, bit, word, full, at_, tries, item, stamp⟩
  rcases h with ⟨A0, n0, c0, A1, n1, c1, A2, n2, c2, A3, n3, c3⟩
  try dsimp only at *
  subst hph
  clear e0
  go_enter Tryz.func37, Tryz.ntmps37
  go_upto_region 1 with (fail)
  have L := Loc.start w
  replace L := (L).alloc (opv ⟨A0, n0, c0, A1, n1, c1, A2, n2, c2, A3, n3, c3⟩ ⟨kind, addr, err, aad, used, 4, shard, sought, leaf, bit, word, full, at_, tries, item, stamp⟩) 72
  try simp only [World.size_alloc] at L
  try dsimp only [nput] at L
  generalize (w).alloc (.cells (opv ⟨A0, n0, c0, A1, n1, c1, A2, n2, c2, A3, n3, c3⟩ ⟨kind, addr, err, aad, used, 4, shard, sought, leaf, bit, word, full, at_, tries, item, stamp⟩) 72) = w1 at L ⊢
  generalize w.heap.size = gO at L ⊢
  have O_8 := L.at_ 0 8 rfl (v := .int .i64 4) rfl
  have O_z := L.lt 0 rfl
  go_wp2_with (refine wpList_load_row rfl 72 (.tmp 1) rfl gO rfl _ _ (0, 0) _ (L.bk_ 0 rfl) Tryz.underlying72 rfl op2_sz ?_)
  clear O_8 O_z
  go_ret
  exact ⟨rfl, L.K⟩
set_option maxRecDepth 100000 in
set_option maxHeartbeats 2000000 in
theorem xph5 (hph : s.phase = 5) :
    Calls Tryz.prog 37 #[.agg (opv h s)] w fun e w' => e = .returned (.func (.func 65) #[.agg (opv h s)] #[]) ∧ Below w.heap.size w w' := by
  have e0 := hph
  rcases s with ⟨kind, addr, err, aad, used, phase, shard, sought, leaf, bit, word, full, at_, tries, item, stamp⟩
  rcases h with ⟨A0, n0, c0, A1, n1, c1, A2, n2, c2, A3, n3, c3⟩
  try dsimp only at *
  subst hph
  clear e0
  go_enter Tryz.func37, Tryz.ntmps37
  go_upto_region 1 with (fail)
  have L := Loc.start w
  replace L := (L).alloc (opv ⟨A0, n0, c0, A1, n1, c1, A2, n2, c2, A3, n3, c3⟩ ⟨kind, addr, err, aad, used, 5, shard, sought, leaf, bit, word, full, at_, tries, item, stamp⟩) 72
  try simp only [World.size_alloc] at L
  try dsimp only [nput] at L
  generalize (w).alloc (.cells (opv ⟨A0, n0, c0, A1, n1, c1, A2, n2, c2, A3, n3, c3⟩ ⟨kind, addr, err, aad, used, 5, shard, sought, leaf, bit, word, full, at_, tries, item, stamp⟩) 72) = w1 at L ⊢
  generalize w.heap.size = gO at L ⊢
  have O_8 := L.at_ 0 8 rfl (v := .int .i64 5) rfl
  have O_z := L.lt 0 rfl
  go_wp2_with (refine wpList_load_row rfl 72 (.tmp 1) rfl gO rfl _ _ (0, 0) _ (L.bk_ 0 rfl) Tryz.underlying72 rfl op2_sz ?_)
  clear O_8 O_z
  go_ret
  exact ⟨rfl, L.K⟩
set_option maxRecDepth 100000 in
set_option maxHeartbeats 2000000 in
theorem xph0 (hph : s.phase = 0) :
    Calls Tryz.prog 37 #[.agg (opv h s)] w fun e w' => e = .returned (.func (.func 66) #[.agg (opv h s)] #[]) ∧ Below w.heap.size w w' := by
  have e0 := hph
  rcases s with ⟨kind, addr, err, aad, used, phase, shard, sought, leaf, bit, word, full, at_, tries, item, stamp⟩
  rcases h with ⟨A0, n0, c0, A1, n1, c1, A2, n2, c2, A3, n3, c3⟩
  try dsimp only at *
  subst hph
  clear e0
  go_enter Tryz.func37, Tryz.ntmps37
  go_upto_region 1 with (fail)
  have L := Loc.start w
  replace L := (L).alloc (opv ⟨A0, n0, c0, A1, n1, c1, A2, n2, c2, A3, n3, c3⟩ ⟨kind, addr, err, aad, used, 0, shard, sought, leaf, bit, word, full, at_, tries, item, stamp⟩) 72
  try simp only [World.size_alloc] at L
  try dsimp only [nput] at L
  generalize (w).alloc (.cells (opv ⟨A0, n0, c0, A1, n1, c1, A2, n2, c2, A3, n3, c3⟩ ⟨kind, addr, err, aad, used, 0, shard, sought, leaf, bit, word, full, at_, tries, item, stamp⟩) 72) = w1 at L ⊢
  generalize w.heap.size = gO at L ⊢
  have O_8 := L.at_ 0 8 rfl (v := .int .i64 0) rfl
  have O_z := L.lt 0 rfl
  go_wp2_with (refine wpList_load_row rfl 72 (.tmp 1) rfl gO rfl _ _ (0, 0) _ (L.bk_ 0 rfl) Tryz.underlying72 rfl op2_sz ?_)
  clear O_8 O_z
  go_ret
  exact ⟨rfl, L.K⟩
set_option maxRecDepth 100000 in
set_option maxHeartbeats 2000000 in
theorem xf_claim (ha : a < 4294967296) (hM : Much a p M) (hE : EI a M zs o s) (hY : YI M zs ys) (hU : US w B m d ys) (hL : Lists lo w h ⟨xs, [], [], []⟩) (hx : xs.length ≤ 65536) (hlo : lo ≤ w.heap.size) (hph : s.phase = 3) :
    Calls Tryz.prog 64 #[.agg (opv h s), .agg #[.int .u32 (a : Int), .int .i64 p, .slice A n c, .int .i64 (ns : Int), .int .i64 wo, .int .i64 qu, .int .i64 tr], .slice B m d] w (RetXL lo (eS a M ys s) ⟨xs, [], [], []⟩ m (gC M ys s) (eB ys s) B w) := by
  have hm0 : 0 < m := by have := hU.len; have := hY.len; omega
  obtain ⟨s2, hs2⟩ : ∃ s2, s2 = eS a M ys s := ⟨_, rfl⟩
  obtain ⟨y2, hy2⟩ : ∃ y2, y2 = gC M ys s := ⟨_, rfl⟩
  obtain ⟨b2, hb2⟩ : ∃ b2, b2 = eB ys s := ⟨_, rfl⟩
  have TK := fun w h (U : US w B m d ys) (L : Lists lo w h ⟨xs, [], [], []⟩) => Lib.hid (gx_claim (w := w) (h := h) (s := s) (ns := ns) (wo := wo) (qu := qu) (tr := tr) (A := A) (n := n) (c := c) ha hM hE hY U L hx hph)
  simp only [← hs2, ← hy2, ← hb2] at TK ⊢
  clear hE hY hs2 hy2 hb2 ha hM
  go_enter Tryz.func64, Tryz.ntmps64
  go_upto_region 1 with (fail)
  have L := Loc.start w
  replace L := (((L).alloc (opv h s) 72).alloc #[.int .u32 (a : Int), .int .i64 p, .slice A n c, .int .i64 (ns : Int), .int .i64 wo, .int .i64 qu, .int .i64 tr] 27).alloc #[.int .i64 0, .int .u32 0, .slice none 0 0, .int .i64 0, .int .u32 0, .bool false, .slice none 0 0, .slice none 0 0, .int .i64 0, .int .i64 0, .int .i64 0, .int .i64 0, .int .i64 0, .int .u64 0, .bool false, .slice none 0 0, .int .i64 0, .int .i64 0, .int .i64 0, .int .i64 0] 40
  try simp only [World.size_alloc] at L
  replace L := L.is 0 (opv hd0 sc0) rfl
  try dsimp only [nput] at L
  generalize (((w).alloc (.cells (opv h s) 72)).alloc (.cells #[.int .u32 (a : Int), .int .i64 p, .slice A n c, .int .i64 (ns : Int), .int .i64 wo, .int .i64 qu, .int .i64 tr] 27)).alloc (.cells #[.int .i64 0, .int .u32 0, .slice none 0 0, .int .i64 0, .int .u32 0, .bool false, .slice none 0 0, .slice none 0 0, .int .i64 0, .int .i64 0, .int .i64 0, .int .i64 0, .int .i64 0, .int .u64 0, .bool false, .slice none 0 0, .int .i64 0, .int .i64 0, .int .i64 0, .int .i64 0] 40) = w1 at L ⊢
  generalize w.heap.size + 1 + 1 = gR at L ⊢
  generalize w.heap.size + 1 = gH at L ⊢
  generalize w.heap.size = gO at L ⊢
  go_wp2_with (first | (refine wpList_load_row rfl 27 (.tmp 4) rfl gH rfl _ _ (0, 0) _ (L.bk_ 1 rfl) Tryz.underlying27 rfl cf_sz ?_) | (refine wpList_load_row rfl 72 (.tmp 3) rfl gO rfl _ _ (0, 0) _ (L.bk_ 2 rfl) Tryz.underlying72 rfl op2_sz ?_))
  have KS := L.K.size
  refine ((TK _ _ (hU.below L.K) (hL.below L.K)).out).mono ?_
  rintro e w2 ⟨h3, B2, d2, rfl, U, L', hA, K'⟩
  have Lb := L.lts
  replace L := L.over K'
  replace L := L.us_av (fun i b e => hA b.1 (Lb i b e) (hU.apart0 hm0 L i b e)) U
  replace L := L.lists Lb L'
  clear Lb
  try dsimp only [lF, List.cons_append, List.nil_append] at L
  clear U L'
  go_wp2_with (refine wpList_store_row rfl 40 (.tmp 7) (.tmp 14) rfl gR _ rfl rfl _ _ (L.bk_ 0 rfl) op_sz rfl (opv_one _ _) ?_)
  replace L := (L.row 0 rfl (opv h3 s2))
  try dsimp only [nput] at L
  generalize (w2).setRow gR (opv h3 s2) = w3 at L ⊢
  refine bodyPost_ret (v := .tuple #[.slice B2 m d2, .agg (opv h3 s2), .bool b2]) ?_ rfl ?_
  · exact results_tct (fn := Tryz.f64) Tryz.results64 _ _ gR _ _ (0, 0) _ rfl (L.bk_ 0 rfl) Tryz.underlying40 rfl op_sz
  exact ⟨_, _, _, rfl, L.us_ 4 rfl, (L.lists_at (l := ⟨xs, [], [], []⟩) 0 rfl).lower_ (Nat.le_trans hlo KS), fun k hk => hA k (Nat.lt_of_lt_of_le hk KS), L.K⟩
set_option maxRecDepth 100000 in
set_option maxHeartbeats 2000000 in
theorem xf_mark (ha : a < 4294967296) (hM : Much a p M) (hE : EI a M zs o s) (hY : YI M zs ys) (hU : US w B m d ys) (hL : Lists lo w h ⟨xs, [], [], []⟩) (hx : xs.length ≤ 65536) (hlo : lo ≤ w.heap.size) (hph : s.phase = 4 ∨ s.phase = 5) :
    Calls Tryz.prog 65 #[.agg (opv h s), .agg #[.int .u32 (a : Int), .int .i64 p, .slice A n c, .int .i64 (ns : Int), .int .i64 wo, .int .i64 qu, .int .i64 tr], .slice B m d] w (RetXL lo (eS a M ys s) ⟨xs, [], [], []⟩ m (gC M ys s) (eB ys s) B w) := by
  have hm0 : 0 < m := by have := hU.len; have := hY.len; omega
  obtain ⟨s2, hs2⟩ : ∃ s2, s2 = eS a M ys s := ⟨_, rfl⟩
  obtain ⟨y2, hy2⟩ : ∃ y2, y2 = gC M ys s := ⟨_, rfl⟩
  obtain ⟨b2, hb2⟩ : ∃ b2, b2 = eB ys s := ⟨_, rfl⟩
  have TK := fun w h (U : US w B m d ys) (L : Lists lo w h ⟨xs, [], [], []⟩) => Lib.hid (gx_mark (w := w) (h := h) (s := s) (ns := ns) (wo := wo) (qu := qu) (tr := tr) (A := A) (n := n) (c := c) ha hM hE hY U L hx hph)
  rw [← hb2]
  rw [show b2 = false from hb2.trans (es_mark (a := a) (M := M) (ys := ys) hph).2.2]
  simp only [← hs2, ← hy2] at TK ⊢
  clear hE hY hs2 hy2 hb2 ha hM
  go_enter Tryz.func65, Tryz.ntmps65
  go_upto_region 1 with (fail)
  have L := Loc.start w
  replace L := (((L).alloc (opv h s) 72).alloc #[.int .u32 (a : Int), .int .i64 p, .slice A n c, .int .i64 (ns : Int), .int .i64 wo, .int .i64 qu, .int .i64 tr] 27).alloc #[.int .i64 0, .int .u32 0, .slice none 0 0, .int .i64 0, .int .u32 0, .bool false, .slice none 0 0, .slice none 0 0, .int .i64 0, .int .i64 0, .int .i64 0, .int .i64 0, .int .i64 0, .int .u64 0, .bool false, .slice none 0 0, .int .i64 0, .int .i64 0, .int .i64 0, .int .i64 0] 40
  try simp only [World.size_alloc] at L
  replace L := L.is 0 (opv hd0 sc0) rfl
  try dsimp only [nput] at L
  generalize (((w).alloc (.cells (opv h s) 72)).alloc (.cells #[.int .u32 (a : Int), .int .i64 p, .slice A n c, .int .i64 (ns : Int), .int .i64 wo, .int .i64 qu, .int .i64 tr] 27)).alloc (.cells #[.int .i64 0, .int .u32 0, .slice none 0 0, .int .i64 0, .int .u32 0, .bool false, .slice none 0 0, .slice none 0 0, .int .i64 0, .int .i64 0, .int .i64 0, .int .i64 0, .int .i64 0, .int .u64 0, .bool false, .slice none 0 0, .int .i64 0, .int .i64 0, .int .i64 0, .int .i64 0] 40) = w1 at L ⊢
  generalize w.heap.size + 1 + 1 = gR at L ⊢
  generalize w.heap.size + 1 = gH at L ⊢
  generalize w.heap.size = gO at L ⊢
  go_wp2_with (first | (refine wpList_load_row rfl 27 (.tmp 4) rfl gH rfl _ _ (0, 0) _ (L.bk_ 1 rfl) Tryz.underlying27 rfl cf_sz ?_) | (refine wpList_load_row rfl 72 (.tmp 3) rfl gO rfl _ _ (0, 0) _ (L.bk_ 2 rfl) Tryz.underlying72 rfl op2_sz ?_))
  have KS := L.K.size
  refine ((TK _ _ (hU.below L.K) (hL.below L.K)).out).mono ?_
  rintro e w2 ⟨h3, B2, d2, rfl, U, L', hA, K'⟩
  have Lb := L.lts
  replace L := L.over K'
  replace L := L.us_av (fun i b e => hA b.1 (Lb i b e) (hU.apart0 hm0 L i b e)) U
  replace L := L.lists Lb L'
  clear Lb
  try dsimp only [lF, List.cons_append, List.nil_append] at L
  clear U L'
  go_upto_region 2 with (refine wpList_store_row rfl 40 (.tmp 10) (.tmp 17) rfl _ _ rfl (show _ = Value.agg (opv h3 s2) from rfl) _ _ (Bk.new _ _ _) op_sz rfl (opv_one _ _) ?_)
  try rw [World.setRow_alloc_new]
  replace L := (L).alloc (opv h3 s2) 40
  try simp only [World.size_alloc] at L
  try dsimp only [nput] at L
  generalize (w2).alloc (.cells (opv h3 s2) 40) = w3 at L ⊢
  generalize w2.heap.size = gP at L ⊢
  replace L := L.drew
  refine wp_region_held_drew (S := fun w' => ∃ v_R : Array Value, v_R.size = 20 ∧ Loc w w' [(gP, 40, opv h3 s2), (gR, 40, v_R), (gH, 27, #[.int .u32 (a : Int), .int .i64 p, .slice A n c, .int .i64 (ns : Int), .int .i64 wo, .int .i64 qu, .int .i64 tr]), (gO, 72, opv h s)] [iF .u32 w1.heap.size h3.A0 h3.n0 h3.c0 xs, iF .u32 w1.heap.size h3.A1 h3.n1 h3.c1 [], iF .i64 w1.heap.size h3.A2 h3.n2 h3.c2 [], iF .u64 w1.heap.size h3.A3 h3.n3 h3.c3 [], uF B2 m d2 y2]) (by kernel_rfl) (⟨_, rfl, L⟩) (fun hHeld => ?_)
  generalize w3.drew = v4 at hHeld L ⊢
  refine wpAnyH_take (i := 0) (oi := ⟨some 18, _, _, _, _, _⟩) (v := .slice B2 m d2) rfl (by kernel_rfl) (by kernel_rfl) (by kernel_rfl) (fun _ _ _ h => h) (Or.inl ⟨by rfl, ?_⟩) hHeld ?_
  · intro ww hS
    try dsimp only at hS
    go_simp
    try with_reducible rfl
    try omega
  try simp only [Act.put, List.setIfInBounds_toArray, List.set_cons_zero, List.set_cons_succ]
  refine wpAnyH_take (i := 1) (oi := ⟨some 19, _, _, _, _, _⟩) (v := .agg (opv h3 s2)) rfl (by kernel_rfl) (by kernel_rfl) (by kernel_rfl) (fun _ _ _ h => h) (yieldsIf_load_row (by rfl) 40 (.tmp 10) rfl gP rfl 40 _ (0, 0) _ (fun _ hS => ((hS.choose_spec.2).bk_ 0 rfl)) Tryz.underlying40 rfl op_sz) hHeld ?_
  try simp only [Act.put, List.setIfInBounds_toArray, List.set_cons_zero, List.set_cons_succ]
  refine wpAnyH_take (i := 2) (oi := ⟨some 6, _, _, _, _, _⟩) (v := .slice B2 m d2) rfl (by kernel_rfl) (by kernel_rfl) (by kernel_rfl) (fun _ _ _ h => h) (Or.inl ⟨by rfl, ?_⟩) hHeld ?_
  · intro ww hS
    try dsimp only at hS
    go_simp
    try with_reducible rfl
    try omega
  try simp only [Act.put, List.setIfInBounds_toArray, List.set_cons_zero, List.set_cons_succ]
  refine wpAnyH_ready (rs := [3]) (by kernel_rfl) (by simp) ?_
  refine AllReadyH.cons (o := ⟨none, _, _, _, _, _⟩) rfl (fun K0 hK => ?_) AllReadyH.nil
  rw [if_pos (by rfl)]
  refine wp_store_row 40 (.tmp 7) (.tmp 19) rfl gR _ rfl rfl _ _ (L.bk_ 1 rfl) op_sz rfl (opv_one _ _) ?_
  replace L := L.row 1 rfl (opv h3 s2)
  try dsimp only [nput] at L
  refine hK.out _ _ ⟨_, rfl, L⟩ (fun hHeld' => ?_)
  clear hHeld hK K0
  have hHeld := hHeld'
  clear hHeld'
  generalize v4.setRow gR (opv h3 s2) = v5 at hHeld L ⊢
  try simp only [Act.put]
  refine wpAnyH_take (i := 4) (oi := ⟨some 8, _, _, _, _, _⟩) (v := .bool false) rfl (by kernel_rfl) (by kernel_rfl) (by kernel_rfl) (fun _ _ _ h => h) (Or.inl ⟨by rfl, ?_⟩) hHeld ?_
  · intro ww hS
    try dsimp only at hS
    go_simp
    try with_reducible rfl
    try omega
  try simp only [Act.put, List.setIfInBounds_toArray, List.set_cons_zero, List.set_cons_succ]
  refine wpAnyH_done (by kernel_rfl) ?_ _
  clear hHeld
  go_wp2
  refine bodyPost_ret (v := .tuple #[.slice B2 m d2, .agg (opv h3 s2), .bool false]) ?_ rfl ?_
  · exact results_tct (fn := Tryz.f65) Tryz.results65 _ _ gR _ _ (0, 0) _ rfl (L.bk_ 1 rfl) Tryz.underlying40 rfl op_sz
  exact ⟨_, _, _, rfl, L.us_ 4 rfl, (L.lists_at (l := ⟨xs, [], [], []⟩) 0 rfl).lower_ (Nat.le_trans hlo KS), fun k hk => hA k (Nat.lt_of_lt_of_le hk KS), L.K⟩
set_option maxRecDepth 100000 in
set_option maxHeartbeats 2000000 in
theorem xf_stay (ha : a < 4294967296) (hM : Much a p M) (hE : EI a M zs o s) (hY : YI M zs ys) (hU : US w B m d ys) (hL : Lists lo w h ⟨xs, [], [], []⟩) (hx : xs.length ≤ 65536) (hlo : lo ≤ w.heap.size) (hph : s.phase = 0) :
    Calls Tryz.prog 66 #[.agg (opv h s), .agg #[.int .u32 (a : Int), .int .i64 p, .slice A n c, .int .i64 (ns : Int), .int .i64 wo, .int .i64 qu, .int .i64 tr], .slice B m d] w (RetXL lo (eS a M ys s) ⟨xs, [], [], []⟩ m (gC M ys s) (eB ys s) B w) := by
  obtain ⟨e1, e2, e3⟩ := es_done (a := a) (M := M) (ys := ys) hph
  rw [e1, e2, e3]
  clear e1 e2 e3 hE hY ha hM
  go_enter Tryz.func66, Tryz.ntmps66
  go_upto_region 1 with (fail)
  have L := Loc.start w
  replace L := (((L).alloc (opv h s) 72).alloc #[.int .u32 (a : Int), .int .i64 p, .slice A n c, .int .i64 (ns : Int), .int .i64 wo, .int .i64 qu, .int .i64 tr] 27).alloc #[.int .i64 0, .int .u32 0, .slice none 0 0, .int .i64 0, .int .u32 0, .bool false, .slice none 0 0, .slice none 0 0, .int .i64 0, .int .i64 0, .int .i64 0, .int .i64 0, .int .i64 0, .int .u64 0, .bool false, .slice none 0 0, .int .i64 0, .int .i64 0, .int .i64 0, .int .i64 0] 40
  try simp only [World.size_alloc] at L
  replace L := L.is 0 (opv hd0 sc0) rfl
  try dsimp only [nput] at L
  generalize (((w).alloc (.cells (opv h s) 72)).alloc (.cells #[.int .u32 (a : Int), .int .i64 p, .slice A n c, .int .i64 (ns : Int), .int .i64 wo, .int .i64 qu, .int .i64 tr] 27)).alloc (.cells #[.int .i64 0, .int .u32 0, .slice none 0 0, .int .i64 0, .int .u32 0, .bool false, .slice none 0 0, .slice none 0 0, .int .i64 0, .int .i64 0, .int .i64 0, .int .i64 0, .int .i64 0, .int .u64 0, .bool false, .slice none 0 0, .int .i64 0, .int .i64 0, .int .i64 0, .int .i64 0] 40) = w1 at L ⊢
  generalize w.heap.size + 1 + 1 = gR at L ⊢
  generalize w.heap.size + 1 = gH at L ⊢
  generalize w.heap.size = gO at L ⊢
  replace L := L.drew
  refine wp_region_held_drew (S := fun w' => ∃ v_R : Array Value, v_R.size = 20 ∧ Loc w w' [(gR, 40, v_R), (gH, 27, #[.int .u32 (a : Int), .int .i64 p, .slice A n c, .int .i64 (ns : Int), .int .i64 wo, .int .i64 qu, .int .i64 tr]), (gO, 72, opv h s)] []) (by kernel_rfl) (⟨_, rfl, L⟩) (fun hHeld => ?_)
  generalize w1.drew = v2 at hHeld L ⊢
  refine wpAnyH_take (i := 0) (oi := ⟨some 9, _, _, _, _, _⟩) (v := .slice B m d) rfl (by kernel_rfl) (by kernel_rfl) (by kernel_rfl) (fun _ _ _ h => h) (Or.inl ⟨by rfl, ?_⟩) hHeld ?_
  · intro ww hS
    try dsimp only at hS
    go_simp
    try with_reducible rfl
    try omega
  try simp only [Act.put, List.setIfInBounds_toArray, List.set_cons_zero, List.set_cons_succ]
  refine wpAnyH_take (i := 1) (oi := ⟨some 10, _, _, _, _, _⟩) (v := .agg (opv h s)) rfl (by kernel_rfl) (by kernel_rfl) (by kernel_rfl) (fun _ _ _ h => h) (yieldsIf_load_row (by rfl) 72 (.tmp 3) rfl gO rfl 72 _ (0, 0) _ (fun _ hS => ((hS.choose_spec.2).bk_ 2 rfl)) Tryz.underlying72 rfl op2_sz) hHeld ?_
  try simp only [Act.put, List.setIfInBounds_toArray, List.set_cons_zero, List.set_cons_succ]
  refine wpAnyH_take (i := 2) (oi := ⟨some 6, _, _, _, _, _⟩) (v := .slice B m d) rfl (by kernel_rfl) (by kernel_rfl) (by kernel_rfl) (fun _ _ _ h => h) (Or.inl ⟨by rfl, ?_⟩) hHeld ?_
  · intro ww hS
    try dsimp only at hS
    go_simp
    try with_reducible rfl
    try omega
  try simp only [Act.put, List.setIfInBounds_toArray, List.set_cons_zero, List.set_cons_succ]
  refine wpAnyH_ready (rs := [3]) (by kernel_rfl) (by simp) ?_
  refine AllReadyH.cons (o := ⟨none, _, _, _, _, _⟩) rfl (fun K0 hK => ?_) AllReadyH.nil
  rw [if_pos (by rfl)]
  refine wp_store_row 40 (.tmp 7) (.tmp 10) rfl gR _ rfl rfl _ _ (L.bk_ 0 rfl) op_sz rfl (opv_one _ _) ?_
  replace L := L.row 0 rfl (opv h s)
  try dsimp only [nput] at L
  refine hK.out _ _ ⟨_, rfl, L⟩ (fun hHeld' => ?_)
  clear hHeld hK K0
  have hHeld := hHeld'
  clear hHeld'
  generalize v2.setRow gR (opv h s) = v3 at hHeld L ⊢
  try simp only [Act.put]
  refine wpAnyH_take (i := 4) (oi := ⟨some 8, _, _, _, _, _⟩) (v := .bool false) rfl (by kernel_rfl) (by kernel_rfl) (by kernel_rfl) (fun _ _ _ h => h) (Or.inl ⟨by rfl, ?_⟩) hHeld ?_
  · intro ww hS
    try dsimp only at hS
    go_simp
    try with_reducible rfl
    try omega
  try simp only [Act.put, List.setIfInBounds_toArray, List.set_cons_zero, List.set_cons_succ]
  refine wpAnyH_done (by kernel_rfl) ?_ _
  clear hHeld
  go_wp2
  refine bodyPost_ret (v := .tuple #[.slice B m d, .agg (opv h s), .bool false]) ?_ rfl ?_
  · exact results_tct (fn := Tryz.f66) Tryz.results66 _ _ gR _ _ (0, 0) _ rfl (L.bk_ 0 rfl) Tryz.underlying40 rfl op_sz
  exact ⟨_, _, _, rfl, hU.below L.K, hL.below L.K, fun k _ h => h, L.K⟩
set_option maxRecDepth 100000 in
set_option maxHeartbeats 2000000 in
theorem xf_take (ha : a < 4294967296) (hM : Much a p M) (hE : EI a M zs o s) (hY : YI M zs ys) (hU : US w B m d ys) (hL : Lists lo w h ⟨xs, [], [], []⟩) (hx : xs.length ≤ 65536) (hlo : lo ≤ w.heap.size) (hph : s.phase = 8) (hk : s.kind = 2) (hbit : (gt ys (o / 32)).testBit (o % 32) = false) :
    Calls Tryz.prog 63 #[.agg (opv h s), .agg #[.int .u32 (a : Int), .int .i64 p, .slice A n c, .int .i64 (ns : Int), .int .i64 wo, .int .i64 qu, .int .i64 tr], .slice B m d] w (RetXL lo (eS a M ys s) ⟨xs, [], [], []⟩ m (gC M ys s) (eB ys s) B w) := by
  have hml := hU.len
  have hyl := hY.len
  have hle := hE.le
  have hlf := hE.lf
  have hbt := hE.bt
  have gl9 := hE.fl
  have fb' := hE.fb
  have hx64 := gt_lt hU.fit (o / 32)
  have TLd := fun w (U : US w B m d ys) => Lib.hid (by have R := load_any U ((o / 32 : Nat) : Int); rw [ldI_nat] at R; exact R)
  have TUs := fun w => Lib.hid (used_any (gt ys (o / 32)) (o % 32) hx64 (by omega) w)
  rw [hbit] at TUs
  obtain ⟨e1, e2⟩ := es_read (a := a) (M := M) (ys := ys) hph
  obtain ⟨x, hx2⟩ : ∃ x, x = gt ys (o / 32) := ⟨_, rfl⟩
  have e4 : eB ys s = false := by unfold eB; rw [if_pos hph, gl9, fb', hk, hbit]; rfl
  have e5 : xkS (gt ys s.leaf.toNat) s = tkS s x := by unfold xkS; rw [gl9, fb', if_pos hk, hbit, if_neg Bool.false_ne_true, hx2]
  rw [e1, e2, e4, e5]
  clear e1 e2 e4 e5
  simp only [← hx2] at TLd TUs
  obtain ⟨lf, hlf2⟩ : ∃ y, y = o / 32 := ⟨_, rfl⟩
  obtain ⟨b, hb2⟩ : ∃ y, y = o % 32 := ⟨_, rfl⟩
  rw [← hlf2] at hlf
  simp only [← hlf2] at TLd
  rw [← hb2] at hbt
  simp only [← hb2] at TUs
  clear hx2 hlf2 hb2 hE hY hyl hx64 gl9 fb' ha hM hle hml hbit
  rcases s with ⟨kind, addr, err, aad, used, phase, shard, sought, leaf, bit, word, full, at_, tries, item, stamp⟩
  rcases h with ⟨A0, n0, c0, A1, n1, c1, A2, n2, c2, A3, n3, c3⟩
  try dsimp only at *
  subst hph hk hlf hbt
  go_enter Tryz.func63, Tryz.ntmps63
  go_upto_region 1 with (fail)
  have L := Loc.start w
  replace L := (((L).alloc (opv ⟨A0, n0, c0, A1, n1, c1, A2, n2, c2, A3, n3, c3⟩ ⟨2, addr, err, aad, used, 8, shard, sought, (lf : Int), (b : Int), word, full, at_, tries, item, stamp⟩) 72).alloc #[.int .u32 (a : Int), .int .i64 p, .slice A n c, .int .i64 (ns : Int), .int .i64 wo, .int .i64 qu, .int .i64 tr] 27).alloc #[.int .i64 0, .int .u32 0, .slice none 0 0, .int .i64 0, .int .u32 0, .bool false, .slice none 0 0, .slice none 0 0, .int .i64 0, .int .i64 0, .int .i64 0, .int .i64 0, .int .i64 0, .int .u64 0, .bool false, .slice none 0 0, .int .i64 0, .int .i64 0, .int .i64 0, .int .i64 0] 40
  try simp only [World.size_alloc] at L
  replace L := L.is 0 (opv hd0 sc0) rfl
  try dsimp only [nput] at L
  generalize (((w).alloc (.cells (opv ⟨A0, n0, c0, A1, n1, c1, A2, n2, c2, A3, n3, c3⟩ ⟨2, addr, err, aad, used, 8, shard, sought, (lf : Int), (b : Int), word, full, at_, tries, item, stamp⟩) 72)).alloc (.cells #[.int .u32 (a : Int), .int .i64 p, .slice A n c, .int .i64 (ns : Int), .int .i64 wo, .int .i64 qu, .int .i64 tr] 27)).alloc (.cells #[.int .i64 0, .int .u32 0, .slice none 0 0, .int .i64 0, .int .u32 0, .bool false, .slice none 0 0, .slice none 0 0, .int .i64 0, .int .i64 0, .int .i64 0, .int .i64 0, .int .i64 0, .int .u64 0, .bool false, .slice none 0 0, .int .i64 0, .int .i64 0, .int .i64 0, .int .i64 0] 40) = w1 at L ⊢
  generalize w.heap.size + 1 + 1 = gR at L ⊢
  generalize w.heap.size + 1 = gH at L ⊢
  generalize w.heap.size = gO at L ⊢
  have O_11 := L.at_ 2 11 rfl (v := .int .i64 (lf : Int)) rfl
  have O_z := L.lt 2 rfl
  go_wp2_with fail
  refine ((TLd _ (hU.below L.K)).out).mono ?_
  rintro e w' ⟨rfl, rfl⟩
  clear O_11 O_z
  have O_12 := L.at_ 2 12 rfl (v := .int .i64 (b : Int)) rfl
  have O_z := L.lt 2 rfl
  go_wp2_with fail
  refine ((TUs _).out).mono ?_
  rintro e w' ⟨rfl, rfl⟩
  clear O_12 O_z
  have O_0 := L.at_ 2 0 rfl (v := .int .i64 2) rfl
  have O_13 := L.at_ 2 13 rfl (v := .int .u64 ((word : Nat) : Int)) rfl
  have O_8 := L.at_ 2 8 rfl (v := .int .i64 8) rfl
  have O_z := L.lt 2 rfl
  have O_f13 := L.fz 2 13 rfl
  have O_f8 := L.fz 2 8 rfl
  go_upto_region 8 with fail
  clear O_0 O_13 O_8 O_z O_f13 O_f8
  replace L := (((L.set 2 13 rfl (.int .u64 ((x : Nat) : Int))).set 2 8 rfl (.int .i64 3)).is 2 (opv ⟨A0, n0, c0, A1, n1, c1, A2, n2, c2, A3, n3, c3⟩ ⟨2, addr, err, aad, used, 3, shard, sought, (lf : Int), (b : Int), x, full, at_, tries, item, stamp⟩) rfl)
  try dsimp only [nput] at L
  generalize ((w1).setCell ⟨gO, 13, none⟩ (.int .u64 ((x : Nat) : Int))).setCell ⟨gO, 8, none⟩ (.int .i64 3) = w2 at L ⊢
  replace L := L.drew
  refine wp_region_held_drew (S := fun w' => ∃ v_R : Array Value, v_R.size = 20 ∧ Loc w w' [(gR, 40, v_R), (gH, 27, #[.int .u32 (a : Int), .int .i64 p, .slice A n c, .int .i64 (ns : Int), .int .i64 wo, .int .i64 qu, .int .i64 tr]), (gO, 72, opv ⟨A0, n0, c0, A1, n1, c1, A2, n2, c2, A3, n3, c3⟩ ⟨2, addr, err, aad, used, 3, shard, sought, (lf : Int), (b : Int), x, full, at_, tries, item, stamp⟩)] []) (by kernel_rfl) (⟨_, rfl, L⟩) (fun hHeld => ?_)
  generalize w2.drew = v3 at hHeld L ⊢
  refine wpAnyH_take (i := 0) (oi := ⟨some 36, _, _, _, _, _⟩) (v := .slice B m d) rfl (by kernel_rfl) (by kernel_rfl) (by kernel_rfl) (fun _ _ _ h => h) (Or.inl ⟨by rfl, ?_⟩) hHeld ?_
  · intro ww hS
    try dsimp only at hS
    go_simp
    try with_reducible rfl
    try omega
  try simp only [Act.put, List.setIfInBounds_toArray, List.set_cons_zero, List.set_cons_succ]
  refine wpAnyH_take (i := 1) (oi := ⟨some 37, _, _, _, _, _⟩) (v := .agg (opv ⟨A0, n0, c0, A1, n1, c1, A2, n2, c2, A3, n3, c3⟩ ⟨2, addr, err, aad, used, 3, shard, sought, (lf : Int), (b : Int), x, full, at_, tries, item, stamp⟩)) rfl (by kernel_rfl) (by kernel_rfl) (by kernel_rfl) (fun _ _ _ h => h) (yieldsIf_load_row (by rfl) 72 (.tmp 3) rfl gO rfl 72 _ (0, 0) _ (fun _ hS => ((hS.choose_spec.2).bk_ 2 rfl)) Tryz.underlying72 rfl op2_sz) hHeld ?_
  try simp only [Act.put, List.setIfInBounds_toArray, List.set_cons_zero, List.set_cons_succ]
  refine wpAnyH_take (i := 2) (oi := ⟨some 38, _, _, _, _, _⟩) (v := .pointer (some ⟨gO, 8, none⟩)) rfl (by kernel_rfl) (by kernel_rfl) (by kernel_rfl) (fun _ _ _ h => h) (Or.inl ⟨by rfl, ?_⟩) hHeld ?_
  · intro ww hS
    try dsimp only at hS
    go_simp
    try with_reducible rfl
    try omega
  try simp only [Act.put, List.setIfInBounds_toArray, List.set_cons_zero, List.set_cons_succ]
  refine wpAnyH_take (i := 3) (oi := ⟨some 39, _, _, _, _, _⟩) (v := .int .i64 3) rfl (by kernel_rfl) (by kernel_rfl) (by kernel_rfl) (fun _ _ _ h => h) (Or.inl ⟨by rfl, ?_⟩) hHeld ?_
  · intro ww hS
    try dsimp only at hS
    have O_8 := (hS.choose_spec.2).at_ 2 8 rfl (v := .int .i64 3) rfl
    have O_z := (hS.choose_spec.2).lt 2 rfl
    go_simp
    try with_reducible rfl
    try omega
  try simp only [Act.put, List.setIfInBounds_toArray, List.set_cons_zero, List.set_cons_succ]
  refine wpAnyH_take (i := 4) (oi := ⟨some 40, _, _, _, _, _⟩) (v := .bool false) rfl (by kernel_rfl) (by kernel_rfl) (by kernel_rfl) (fun _ _ _ h => h) (Or.inl ⟨by rfl, ?_⟩) hHeld ?_
  · intro ww hS
    try dsimp only at hS
    go_simp
    try with_reducible rfl
    try omega
  try simp only [Act.put, List.setIfInBounds_toArray, List.set_cons_zero, List.set_cons_succ]
  refine wpAnyH_take (i := 5) (oi := ⟨some 6, _, _, _, _, _⟩) (v := .slice B m d) rfl (by kernel_rfl) (by kernel_rfl) (by kernel_rfl) (fun _ _ _ h => h) (Or.inl ⟨by rfl, ?_⟩) hHeld ?_
  · intro ww hS
    try dsimp only at hS
    go_simp
    try with_reducible rfl
    try omega
  try simp only [Act.put, List.setIfInBounds_toArray, List.set_cons_zero, List.set_cons_succ]
  refine wpAnyH_ready (rs := [6]) (by kernel_rfl) (by simp) ?_
  refine AllReadyH.cons (o := ⟨none, _, _, _, _, _⟩) rfl (fun K0 hK => ?_) AllReadyH.nil
  rw [if_pos (by rfl)]
  refine wp_store_row 40 (.tmp 7) (.tmp 37) rfl gR _ rfl rfl _ _ (L.bk_ 0 rfl) op_sz rfl (opv_one _ _) ?_
  replace L := L.row 0 rfl (opv ⟨A0, n0, c0, A1, n1, c1, A2, n2, c2, A3, n3, c3⟩ ⟨2, addr, err, aad, used, 3, shard, sought, (lf : Int), (b : Int), x, full, at_, tries, item, stamp⟩)
  try dsimp only [nput] at L
  refine hK.out _ _ ⟨_, rfl, L⟩ (fun hHeld' => ?_)
  clear hHeld hK K0
  have hHeld := hHeld'
  clear hHeld'
  generalize v3.setRow gR (opv ⟨A0, n0, c0, A1, n1, c1, A2, n2, c2, A3, n3, c3⟩ ⟨2, addr, err, aad, used, 3, shard, sought, (lf : Int), (b : Int), x, full, at_, tries, item, stamp⟩) = v4 at hHeld L ⊢
  try simp only [Act.put]
  refine wpAnyH_take (i := 7) (oi := ⟨some 8, _, _, _, _, _⟩) (v := .bool false) rfl (by kernel_rfl) (by kernel_rfl) (by kernel_rfl) (fun _ _ _ h => h) (Or.inl ⟨by rfl, ?_⟩) hHeld ?_
  · intro ww hS
    try dsimp only at hS
    go_simp
    try with_reducible rfl
    try omega
  try simp only [Act.put, List.setIfInBounds_toArray, List.set_cons_zero, List.set_cons_succ]
  refine wpAnyH_done (by kernel_rfl) ?_ _
  clear hHeld
  go_wp2
  refine bodyPost_ret (v := .tuple #[.slice B m d, .agg (opv ⟨A0, n0, c0, A1, n1, c1, A2, n2, c2, A3, n3, c3⟩ ⟨2, addr, err, aad, used, 3, shard, sought, (lf : Int), (b : Int), x, full, at_, tries, item, stamp⟩), .bool false]) ?_ rfl ?_
  · exact results_tct (fn := Tryz.f63) Tryz.results63 _ _ gR _ _ (0, 0) _ rfl (L.bk_ 0 rfl) Tryz.underlying40 rfl op_sz
  exact ⟨_, _, _, rfl, hU.below L.K, hL.below L.K, fun k _ h => h, L.K⟩
set_option maxRecDepth 100000 in
set_option maxHeartbeats 2000000 in
theorem xf_used (ha : a < 4294967296) (hM : Much a p M) (hE : EI a M zs o s) (hY : YI M zs ys) (hU : US w B m d ys) (hL : Lists lo w h ⟨xs, [], [], []⟩) (hx : xs.length ≤ 65536) (hlo : lo ≤ w.heap.size) (hph : s.phase = 8) (hk : s.kind = 2) (hbit : (gt ys (o / 32)).testBit (o % 32) = true) :
    Calls Tryz.prog 63 #[.agg (opv h s), .agg #[.int .u32 (a : Int), .int .i64 p, .slice A n c, .int .i64 (ns : Int), .int .i64 wo, .int .i64 qu, .int .i64 tr], .slice B m d] w (RetXL lo (eS a M ys s) ⟨xs, [], [], []⟩ m (gC M ys s) (eB ys s) B w) := by
  have hml := hU.len
  have hyl := hY.len
  have hle := hE.le
  have hlf := hE.lf
  have hbt := hE.bt
  have gl9 := hE.fl
  have fb' := hE.fb
  have hx64 := gt_lt hU.fit (o / 32)
  have TLd := fun w (U : US w B m d ys) => Lib.hid (by have R := load_any U ((o / 32 : Nat) : Int); rw [ldI_nat] at R; exact R)
  have TUs := fun w => Lib.hid (used_any (gt ys (o / 32)) (o % 32) hx64 (by omega) w)
  rw [hbit] at TUs
  obtain ⟨e1, e2⟩ := es_read (a := a) (M := M) (ys := ys) hph
  obtain ⟨x, hx2⟩ : ∃ x, x = gt ys (o / 32) := ⟨_, rfl⟩
  have e4 : eB ys s = true := by unfold eB; rw [if_pos hph, gl9, fb', hk, hbit]; rfl
  have e5 : xkS (gt ys s.leaf.toNat) s = usdS s := by unfold xkS; rw [gl9, fb', if_pos hk, hbit, if_pos rfl]
  rw [e1, e2, e4, e5]
  clear e1 e2 e4 e5
  simp only [← hx2] at TLd TUs
  obtain ⟨lf, hlf2⟩ : ∃ y, y = o / 32 := ⟨_, rfl⟩
  obtain ⟨b, hb2⟩ : ∃ y, y = o % 32 := ⟨_, rfl⟩
  rw [← hlf2] at hlf
  simp only [← hlf2] at TLd
  rw [← hb2] at hbt
  simp only [← hb2] at TUs
  clear hx2 hlf2 hb2 hE hY hyl hx64 gl9 fb' ha hM hle hml hbit
  rcases s with ⟨kind, addr, err, aad, used, phase, shard, sought, leaf, bit, word, full, at_, tries, item, stamp⟩
  rcases h with ⟨A0, n0, c0, A1, n1, c1, A2, n2, c2, A3, n3, c3⟩
  try dsimp only at *
  subst hph hk hlf hbt
  go_enter Tryz.func63, Tryz.ntmps63
  go_upto_region 1 with (fail)
  have L := Loc.start w
  replace L := (((L).alloc (opv ⟨A0, n0, c0, A1, n1, c1, A2, n2, c2, A3, n3, c3⟩ ⟨2, addr, err, aad, used, 8, shard, sought, (lf : Int), (b : Int), word, full, at_, tries, item, stamp⟩) 72).alloc #[.int .u32 (a : Int), .int .i64 p, .slice A n c, .int .i64 (ns : Int), .int .i64 wo, .int .i64 qu, .int .i64 tr] 27).alloc #[.int .i64 0, .int .u32 0, .slice none 0 0, .int .i64 0, .int .u32 0, .bool false, .slice none 0 0, .slice none 0 0, .int .i64 0, .int .i64 0, .int .i64 0, .int .i64 0, .int .i64 0, .int .u64 0, .bool false, .slice none 0 0, .int .i64 0, .int .i64 0, .int .i64 0, .int .i64 0] 40
  try simp only [World.size_alloc] at L
  replace L := L.is 0 (opv hd0 sc0) rfl
  try dsimp only [nput] at L
  generalize (((w).alloc (.cells (opv ⟨A0, n0, c0, A1, n1, c1, A2, n2, c2, A3, n3, c3⟩ ⟨2, addr, err, aad, used, 8, shard, sought, (lf : Int), (b : Int), word, full, at_, tries, item, stamp⟩) 72)).alloc (.cells #[.int .u32 (a : Int), .int .i64 p, .slice A n c, .int .i64 (ns : Int), .int .i64 wo, .int .i64 qu, .int .i64 tr] 27)).alloc (.cells #[.int .i64 0, .int .u32 0, .slice none 0 0, .int .i64 0, .int .u32 0, .bool false, .slice none 0 0, .slice none 0 0, .int .i64 0, .int .i64 0, .int .i64 0, .int .i64 0, .int .i64 0, .int .u64 0, .bool false, .slice none 0 0, .int .i64 0, .int .i64 0, .int .i64 0, .int .i64 0] 40) = w1 at L ⊢
  generalize w.heap.size + 1 + 1 = gR at L ⊢
  generalize w.heap.size + 1 = gH at L ⊢
  generalize w.heap.size = gO at L ⊢
  have O_11 := L.at_ 2 11 rfl (v := .int .i64 (lf : Int)) rfl
  have O_z := L.lt 2 rfl
  go_wp2_with fail
  refine ((TLd _ (hU.below L.K)).out).mono ?_
  rintro e w' ⟨rfl, rfl⟩
  clear O_11 O_z
  have O_12 := L.at_ 2 12 rfl (v := .int .i64 (b : Int)) rfl
  have O_z := L.lt 2 rfl
  go_wp2_with fail
  refine ((TUs _).out).mono ?_
  rintro e w' ⟨rfl, rfl⟩
  clear O_12 O_z
  have O_0 := L.at_ 2 0 rfl (v := .int .i64 2) rfl
  have O_3 := L.at_ 2 3 rfl (v := .int .i64 err) rfl
  have O_8 := L.at_ 2 8 rfl (v := .int .i64 8) rfl
  have O_z := L.lt 2 rfl
  have O_f3 := L.fz 2 3 rfl
  have O_f8 := L.fz 2 8 rfl
  go_upto_region 8 with fail
  clear O_0 O_3 O_8 O_z O_f3 O_f8
  replace L := (((L.set 2 3 rfl (.int .i64 5)).set 2 8 rfl (.int .i64 0)).is 2 (opv ⟨A0, n0, c0, A1, n1, c1, A2, n2, c2, A3, n3, c3⟩ ⟨2, addr, 5, aad, used, 0, shard, sought, (lf : Int), (b : Int), word, full, at_, tries, item, stamp⟩) rfl)
  try dsimp only [nput] at L
  generalize ((w1).setCell ⟨gO, 3, none⟩ (.int .i64 5)).setCell ⟨gO, 8, none⟩ (.int .i64 0) = w2 at L ⊢
  replace L := L.drew
  refine wp_region_held_drew (S := fun w' => ∃ v_R : Array Value, v_R.size = 20 ∧ Loc w w' [(gR, 40, v_R), (gH, 27, #[.int .u32 (a : Int), .int .i64 p, .slice A n c, .int .i64 (ns : Int), .int .i64 wo, .int .i64 qu, .int .i64 tr]), (gO, 72, opv ⟨A0, n0, c0, A1, n1, c1, A2, n2, c2, A3, n3, c3⟩ ⟨2, addr, 5, aad, used, 0, shard, sought, (lf : Int), (b : Int), word, full, at_, tries, item, stamp⟩)] []) (by kernel_rfl) (⟨_, rfl, L⟩) (fun hHeld => ?_)
  generalize w2.drew = v3 at hHeld L ⊢
  refine wpAnyH_take (i := 0) (oi := ⟨some 36, _, _, _, _, _⟩) (v := .slice B m d) rfl (by kernel_rfl) (by kernel_rfl) (by kernel_rfl) (fun _ _ _ h => h) (Or.inl ⟨by rfl, ?_⟩) hHeld ?_
  · intro ww hS
    try dsimp only at hS
    go_simp
    try with_reducible rfl
    try omega
  try simp only [Act.put, List.setIfInBounds_toArray, List.set_cons_zero, List.set_cons_succ]
  refine wpAnyH_take (i := 1) (oi := ⟨some 37, _, _, _, _, _⟩) (v := .agg (opv ⟨A0, n0, c0, A1, n1, c1, A2, n2, c2, A3, n3, c3⟩ ⟨2, addr, 5, aad, used, 0, shard, sought, (lf : Int), (b : Int), word, full, at_, tries, item, stamp⟩)) rfl (by kernel_rfl) (by kernel_rfl) (by kernel_rfl) (fun _ _ _ h => h) (yieldsIf_load_row (by rfl) 72 (.tmp 3) rfl gO rfl 72 _ (0, 0) _ (fun _ hS => ((hS.choose_spec.2).bk_ 2 rfl)) Tryz.underlying72 rfl op2_sz) hHeld ?_
  try simp only [Act.put, List.setIfInBounds_toArray, List.set_cons_zero, List.set_cons_succ]
  refine wpAnyH_take (i := 2) (oi := ⟨some 38, _, _, _, _, _⟩) (v := .pointer (some ⟨gO, 8, none⟩)) rfl (by kernel_rfl) (by kernel_rfl) (by kernel_rfl) (fun _ _ _ h => h) (Or.inl ⟨by rfl, ?_⟩) hHeld ?_
  · intro ww hS
    try dsimp only at hS
    go_simp
    try with_reducible rfl
    try omega
  try simp only [Act.put, List.setIfInBounds_toArray, List.set_cons_zero, List.set_cons_succ]
  refine wpAnyH_take (i := 3) (oi := ⟨some 39, _, _, _, _, _⟩) (v := .int .i64 0) rfl (by kernel_rfl) (by kernel_rfl) (by kernel_rfl) (fun _ _ _ h => h) (Or.inl ⟨by rfl, ?_⟩) hHeld ?_
  · intro ww hS
    try dsimp only at hS
    have O_8 := (hS.choose_spec.2).at_ 2 8 rfl (v := .int .i64 0) rfl
    have O_z := (hS.choose_spec.2).lt 2 rfl
    go_simp
    try with_reducible rfl
    try omega
  try simp only [Act.put, List.setIfInBounds_toArray, List.set_cons_zero, List.set_cons_succ]
  refine wpAnyH_take (i := 4) (oi := ⟨some 40, _, _, _, _, _⟩) (v := .bool true) rfl (by kernel_rfl) (by kernel_rfl) (by kernel_rfl) (fun _ _ _ h => h) (Or.inl ⟨by rfl, ?_⟩) hHeld ?_
  · intro ww hS
    try dsimp only at hS
    go_simp
    try with_reducible rfl
    try omega
  try simp only [Act.put, List.setIfInBounds_toArray, List.set_cons_zero, List.set_cons_succ]
  refine wpAnyH_take (i := 5) (oi := ⟨some 6, _, _, _, _, _⟩) (v := .slice B m d) rfl (by kernel_rfl) (by kernel_rfl) (by kernel_rfl) (fun _ _ _ h => h) (Or.inl ⟨by rfl, ?_⟩) hHeld ?_
  · intro ww hS
    try dsimp only at hS
    go_simp
    try with_reducible rfl
    try omega
  try simp only [Act.put, List.setIfInBounds_toArray, List.set_cons_zero, List.set_cons_succ]
  refine wpAnyH_ready (rs := [6]) (by kernel_rfl) (by simp) ?_
  refine AllReadyH.cons (o := ⟨none, _, _, _, _, _⟩) rfl (fun K0 hK => ?_) AllReadyH.nil
  rw [if_pos (by rfl)]
  refine wp_store_row 40 (.tmp 7) (.tmp 37) rfl gR _ rfl rfl _ _ (L.bk_ 0 rfl) op_sz rfl (opv_one _ _) ?_
  replace L := L.row 0 rfl (opv ⟨A0, n0, c0, A1, n1, c1, A2, n2, c2, A3, n3, c3⟩ ⟨2, addr, 5, aad, used, 0, shard, sought, (lf : Int), (b : Int), word, full, at_, tries, item, stamp⟩)
  try dsimp only [nput] at L
  refine hK.out _ _ ⟨_, rfl, L⟩ (fun hHeld' => ?_)
  clear hHeld hK K0
  have hHeld := hHeld'
  clear hHeld'
  generalize v3.setRow gR (opv ⟨A0, n0, c0, A1, n1, c1, A2, n2, c2, A3, n3, c3⟩ ⟨2, addr, 5, aad, used, 0, shard, sought, (lf : Int), (b : Int), word, full, at_, tries, item, stamp⟩) = v4 at hHeld L ⊢
  try simp only [Act.put]
  refine wpAnyH_take (i := 7) (oi := ⟨some 8, _, _, _, _, _⟩) (v := .bool true) rfl (by kernel_rfl) (by kernel_rfl) (by kernel_rfl) (fun _ _ _ h => h) (Or.inl ⟨by rfl, ?_⟩) hHeld ?_
  · intro ww hS
    try dsimp only at hS
    go_simp
    try with_reducible rfl
    try omega
  try simp only [Act.put, List.setIfInBounds_toArray, List.set_cons_zero, List.set_cons_succ]
  refine wpAnyH_done (by kernel_rfl) ?_ _
  clear hHeld
  go_wp2
  refine bodyPost_ret (v := .tuple #[.slice B m d, .agg (opv ⟨A0, n0, c0, A1, n1, c1, A2, n2, c2, A3, n3, c3⟩ ⟨2, addr, 5, aad, used, 0, shard, sought, (lf : Int), (b : Int), word, full, at_, tries, item, stamp⟩), .bool true]) ?_ rfl ?_
  · exact results_tct (fn := Tryz.f63) Tryz.results63 _ _ gR _ _ (0, 0) _ rfl (L.bk_ 0 rfl) Tryz.underlying40 rfl op_sz
  exact ⟨_, _, _, rfl, hU.below L.K, hL.below L.K, fun k _ h => h, L.K⟩
set_option maxRecDepth 100000 in
set_option maxHeartbeats 2000000 in
theorem xf_ask (ha : a < 4294967296) (hM : Much a p M) (hE : EI a M zs o s) (hY : YI M zs ys) (hU : US w B m d ys) (hL : Lists lo w h ⟨xs, [], [], []⟩) (hx : xs.length ≤ 65536) (hlo : lo ≤ w.heap.size) (hph : s.phase = 8) (hk : s.kind = 5) :
    Calls Tryz.prog 63 #[.agg (opv h s), .agg #[.int .u32 (a : Int), .int .i64 p, .slice A n c, .int .i64 (ns : Int), .int .i64 wo, .int .i64 qu, .int .i64 tr], .slice B m d] w (RetXL lo (eS a M ys s) ⟨xs, [], [], []⟩ m (gC M ys s) (eB ys s) B w) := by
  have hml := hU.len
  have hyl := hY.len
  have hle := hE.le
  have hlf := hE.lf
  have hbt := hE.bt
  have gl9 := hE.fl
  have fb' := hE.fb
  have hx64 := gt_lt hU.fit (o / 32)
  have TLd := fun w (U : US w B m d ys) => Lib.hid (by have R := load_any U ((o / 32 : Nat) : Int); rw [ldI_nat] at R; exact R)
  have TUs := fun w => Lib.hid (used_any (gt ys (o / 32)) (o % 32) hx64 (by omega) w)
  obtain ⟨bq, hbq⟩ : ∃ bq, bq = (gt ys (o / 32)).testBit (o % 32) := ⟨_, rfl⟩
  rw [← hbq] at TUs
  obtain ⟨e1, e2⟩ := es_read (a := a) (M := M) (ys := ys) hph
  obtain ⟨x, hx2⟩ : ∃ x, x = gt ys (o / 32) := ⟨_, rfl⟩
  have e4 : eB ys s = true := by unfold eB; rw [if_pos hph, gl9, fb', hk]; rfl
  have e5 : xkS (gt ys s.leaf.toNat) s = qyS s bq := by unfold xkS; rw [gl9, fb', if_neg (by omega), hbq]
  rw [e1, e2, e4, e5]
  clear e1 e2 e4 e5
  simp only [← hx2] at TLd TUs
  obtain ⟨lf, hlf2⟩ : ∃ y, y = o / 32 := ⟨_, rfl⟩
  obtain ⟨b, hb2⟩ : ∃ y, y = o % 32 := ⟨_, rfl⟩
  rw [← hlf2] at hlf
  simp only [← hlf2] at TLd
  rw [← hb2] at hbt
  simp only [← hb2] at TUs
  clear hx2 hlf2 hb2 hE hY hyl hx64 gl9 fb' ha hM hle hml hbq
  rcases s with ⟨kind, addr, err, aad, used, phase, shard, sought, leaf, bit, word, full, at_, tries, item, stamp⟩
  rcases h with ⟨A0, n0, c0, A1, n1, c1, A2, n2, c2, A3, n3, c3⟩
  try dsimp only at *
  subst hph hk hlf hbt
  go_enter Tryz.func63, Tryz.ntmps63
  go_upto_region 1 with (fail)
  have L := Loc.start w
  replace L := (((L).alloc (opv ⟨A0, n0, c0, A1, n1, c1, A2, n2, c2, A3, n3, c3⟩ ⟨5, addr, err, aad, used, 8, shard, sought, (lf : Int), (b : Int), word, full, at_, tries, item, stamp⟩) 72).alloc #[.int .u32 (a : Int), .int .i64 p, .slice A n c, .int .i64 (ns : Int), .int .i64 wo, .int .i64 qu, .int .i64 tr] 27).alloc #[.int .i64 0, .int .u32 0, .slice none 0 0, .int .i64 0, .int .u32 0, .bool false, .slice none 0 0, .slice none 0 0, .int .i64 0, .int .i64 0, .int .i64 0, .int .i64 0, .int .i64 0, .int .u64 0, .bool false, .slice none 0 0, .int .i64 0, .int .i64 0, .int .i64 0, .int .i64 0] 40
  try simp only [World.size_alloc] at L
  replace L := L.is 0 (opv hd0 sc0) rfl
  try dsimp only [nput] at L
  generalize (((w).alloc (.cells (opv ⟨A0, n0, c0, A1, n1, c1, A2, n2, c2, A3, n3, c3⟩ ⟨5, addr, err, aad, used, 8, shard, sought, (lf : Int), (b : Int), word, full, at_, tries, item, stamp⟩) 72)).alloc (.cells #[.int .u32 (a : Int), .int .i64 p, .slice A n c, .int .i64 (ns : Int), .int .i64 wo, .int .i64 qu, .int .i64 tr] 27)).alloc (.cells #[.int .i64 0, .int .u32 0, .slice none 0 0, .int .i64 0, .int .u32 0, .bool false, .slice none 0 0, .slice none 0 0, .int .i64 0, .int .i64 0, .int .i64 0, .int .i64 0, .int .i64 0, .int .u64 0, .bool false, .slice none 0 0, .int .i64 0, .int .i64 0, .int .i64 0, .int .i64 0] 40) = w1 at L ⊢
  generalize w.heap.size + 1 + 1 = gR at L ⊢
  generalize w.heap.size + 1 = gH at L ⊢
  generalize w.heap.size = gO at L ⊢
  have O_11 := L.at_ 2 11 rfl (v := .int .i64 (lf : Int)) rfl
  have O_z := L.lt 2 rfl
  go_wp2_with fail
  refine ((TLd _ (hU.below L.K)).out).mono ?_
  rintro e w' ⟨rfl, rfl⟩
  clear O_11 O_z
  have O_12 := L.at_ 2 12 rfl (v := .int .i64 (b : Int)) rfl
  have O_z := L.lt 2 rfl
  go_wp2_with fail
  refine ((TUs _).out).mono ?_
  rintro e w' ⟨rfl, rfl⟩
  clear O_12 O_z
  have O_0 := L.at_ 2 0 rfl (v := .int .i64 5) rfl
  have O_5 := L.at_ 2 5 rfl (v := .bool used) rfl
  have O_8 := L.at_ 2 8 rfl (v := .int .i64 8) rfl
  have O_z := L.lt 2 rfl
  have O_f5 := L.fz 2 5 rfl
  have O_f8 := L.fz 2 8 rfl
  go_upto_region 8 with fail
  clear O_0 O_5 O_8 O_z O_f5 O_f8
  replace L := (((L.set 2 5 rfl (.bool bq)).set 2 8 rfl (.int .i64 0)).is 2 (opv ⟨A0, n0, c0, A1, n1, c1, A2, n2, c2, A3, n3, c3⟩ ⟨5, addr, err, aad, bq, 0, shard, sought, (lf : Int), (b : Int), word, full, at_, tries, item, stamp⟩) rfl)
  try dsimp only [nput] at L
  generalize ((w1).setCell ⟨gO, 5, none⟩ (.bool bq)).setCell ⟨gO, 8, none⟩ (.int .i64 0) = w2 at L ⊢
  replace L := L.drew
  refine wp_region_held_drew (S := fun w' => ∃ v_R : Array Value, v_R.size = 20 ∧ Loc w w' [(gR, 40, v_R), (gH, 27, #[.int .u32 (a : Int), .int .i64 p, .slice A n c, .int .i64 (ns : Int), .int .i64 wo, .int .i64 qu, .int .i64 tr]), (gO, 72, opv ⟨A0, n0, c0, A1, n1, c1, A2, n2, c2, A3, n3, c3⟩ ⟨5, addr, err, aad, bq, 0, shard, sought, (lf : Int), (b : Int), word, full, at_, tries, item, stamp⟩)] []) (by kernel_rfl) (⟨_, rfl, L⟩) (fun hHeld => ?_)
  generalize w2.drew = v3 at hHeld L ⊢
  refine wpAnyH_take (i := 0) (oi := ⟨some 36, _, _, _, _, _⟩) (v := .slice B m d) rfl (by kernel_rfl) (by kernel_rfl) (by kernel_rfl) (fun _ _ _ h => h) (Or.inl ⟨by rfl, ?_⟩) hHeld ?_
  · intro ww hS
    try dsimp only at hS
    go_simp
    try with_reducible rfl
    try omega
  try simp only [Act.put, List.setIfInBounds_toArray, List.set_cons_zero, List.set_cons_succ]
  refine wpAnyH_take (i := 1) (oi := ⟨some 37, _, _, _, _, _⟩) (v := .agg (opv ⟨A0, n0, c0, A1, n1, c1, A2, n2, c2, A3, n3, c3⟩ ⟨5, addr, err, aad, bq, 0, shard, sought, (lf : Int), (b : Int), word, full, at_, tries, item, stamp⟩)) rfl (by kernel_rfl) (by kernel_rfl) (by kernel_rfl) (fun _ _ _ h => h) (yieldsIf_load_row (by rfl) 72 (.tmp 3) rfl gO rfl 72 _ (0, 0) _ (fun _ hS => ((hS.choose_spec.2).bk_ 2 rfl)) Tryz.underlying72 rfl op2_sz) hHeld ?_
  try simp only [Act.put, List.setIfInBounds_toArray, List.set_cons_zero, List.set_cons_succ]
  refine wpAnyH_take (i := 2) (oi := ⟨some 38, _, _, _, _, _⟩) (v := .pointer (some ⟨gO, 8, none⟩)) rfl (by kernel_rfl) (by kernel_rfl) (by kernel_rfl) (fun _ _ _ h => h) (Or.inl ⟨by rfl, ?_⟩) hHeld ?_
  · intro ww hS
    try dsimp only at hS
    go_simp
    try with_reducible rfl
    try omega
  try simp only [Act.put, List.setIfInBounds_toArray, List.set_cons_zero, List.set_cons_succ]
  refine wpAnyH_take (i := 3) (oi := ⟨some 39, _, _, _, _, _⟩) (v := .int .i64 0) rfl (by kernel_rfl) (by kernel_rfl) (by kernel_rfl) (fun _ _ _ h => h) (Or.inl ⟨by rfl, ?_⟩) hHeld ?_
  · intro ww hS
    try dsimp only at hS
    have O_8 := (hS.choose_spec.2).at_ 2 8 rfl (v := .int .i64 0) rfl
    have O_z := (hS.choose_spec.2).lt 2 rfl
    go_simp
    try with_reducible rfl
    try omega
  try simp only [Act.put, List.setIfInBounds_toArray, List.set_cons_zero, List.set_cons_succ]
  refine wpAnyH_take (i := 4) (oi := ⟨some 40, _, _, _, _, _⟩) (v := .bool true) rfl (by kernel_rfl) (by kernel_rfl) (by kernel_rfl) (fun _ _ _ h => h) (Or.inl ⟨by rfl, ?_⟩) hHeld ?_
  · intro ww hS
    try dsimp only at hS
    go_simp
    try with_reducible rfl
    try omega
  try simp only [Act.put, List.setIfInBounds_toArray, List.set_cons_zero, List.set_cons_succ]
  refine wpAnyH_take (i := 5) (oi := ⟨some 6, _, _, _, _, _⟩) (v := .slice B m d) rfl (by kernel_rfl) (by kernel_rfl) (by kernel_rfl) (fun _ _ _ h => h) (Or.inl ⟨by rfl, ?_⟩) hHeld ?_
  · intro ww hS
    try dsimp only at hS
    go_simp
    try with_reducible rfl
    try omega
  try simp only [Act.put, List.setIfInBounds_toArray, List.set_cons_zero, List.set_cons_succ]
  refine wpAnyH_ready (rs := [6]) (by kernel_rfl) (by simp) ?_
  refine AllReadyH.cons (o := ⟨none, _, _, _, _, _⟩) rfl (fun K0 hK => ?_) AllReadyH.nil
  rw [if_pos (by rfl)]
  refine wp_store_row 40 (.tmp 7) (.tmp 37) rfl gR _ rfl rfl _ _ (L.bk_ 0 rfl) op_sz rfl (opv_one _ _) ?_
  replace L := L.row 0 rfl (opv ⟨A0, n0, c0, A1, n1, c1, A2, n2, c2, A3, n3, c3⟩ ⟨5, addr, err, aad, bq, 0, shard, sought, (lf : Int), (b : Int), word, full, at_, tries, item, stamp⟩)
  try dsimp only [nput] at L
  refine hK.out _ _ ⟨_, rfl, L⟩ (fun hHeld' => ?_)
  clear hHeld hK K0
  have hHeld := hHeld'
  clear hHeld'
  generalize v3.setRow gR (opv ⟨A0, n0, c0, A1, n1, c1, A2, n2, c2, A3, n3, c3⟩ ⟨5, addr, err, aad, bq, 0, shard, sought, (lf : Int), (b : Int), word, full, at_, tries, item, stamp⟩) = v4 at hHeld L ⊢
  try simp only [Act.put]
  refine wpAnyH_take (i := 7) (oi := ⟨some 8, _, _, _, _, _⟩) (v := .bool true) rfl (by kernel_rfl) (by kernel_rfl) (by kernel_rfl) (fun _ _ _ h => h) (Or.inl ⟨by rfl, ?_⟩) hHeld ?_
  · intro ww hS
    try dsimp only at hS
    go_simp
    try with_reducible rfl
    try omega
  try simp only [Act.put, List.setIfInBounds_toArray, List.set_cons_zero, List.set_cons_succ]
  refine wpAnyH_done (by kernel_rfl) ?_ _
  clear hHeld
  go_wp2
  refine bodyPost_ret (v := .tuple #[.slice B m d, .agg (opv ⟨A0, n0, c0, A1, n1, c1, A2, n2, c2, A3, n3, c3⟩ ⟨5, addr, err, aad, bq, 0, shard, sought, (lf : Int), (b : Int), word, full, at_, tries, item, stamp⟩), .bool true]) ?_ rfl ?_
  · exact results_tct (fn := Tryz.f63) Tryz.results63 _ _ gR _ _ (0, 0) _ rfl (L.bk_ 0 rfl) Tryz.underlying40 rfl op_sz
  exact ⟨_, _, _, rfl, hU.below L.K, hL.below L.K, fun k _ h => h, L.K⟩
set_option maxRecDepth 100000 in
set_option maxHeartbeats 2000000 in
theorem xs_to {s2 : Sc} {y2 : List Nat} {b2 : Bool} (hff : f = 63 ∨ f = 64 ∨ f = 65 ∨ f = 66) (hm : 0 < m) (hU : US w B m d ys) (hL : Lists lo w h l) (h0 : h.n0 ≤ 65536) (h1 : h.n1 ≤ 65536) (h2 : h.n2 ≤ 65536) (h3 : h.n3 ≤ 65536)
    (TP : ∀ w h, Hid (Calls Tryz.prog 37 #[.agg (opv h s)] w fun e w' => e = .returned (.func (.func f) #[.agg (opv h s)] #[]) ∧ Below w.heap.size w w'))
    (TK : ∀ w lo h, lo ≤ w.heap.size → US w B m d ys → Lists lo w h l → Hid (Calls Tryz.prog f #[.agg (opv h s), .agg #[.int .u32 (a : Int), .int .i64 p, .slice A n c, .int .i64 (ns : Int), .int .i64 wo, .int .i64 qu, .int .i64 tr], .slice B m d] w (RetXL lo s2 l m y2 b2 B w))) :
    Calls Tryz.prog 11 #[.agg #[.int .u32 (a : Int), .int .i64 p, .slice A n c, .int .i64 (ns : Int), .int .i64 wo, .int .i64 qu, .int .i64 tr], .slice B m d, .agg (opv h s)] w (RetX s2 l m y2 b2 B w) := by
  have hm0 : 0 < m := hm
  have TOwn := fun w (L : Lists lo w h l) => Lib.hid (ownx (s := s) L (by omega) (by omega) (by omega) (by omega))
  go_enter Tryz.func11, Tryz.ntmps11
  go_upto_region 1 with (fail)
  have L := Loc.start w
  replace L := (((L).alloc #[.int .u32 (a : Int), .int .i64 p, .slice A n c, .int .i64 (ns : Int), .int .i64 wo, .int .i64 qu, .int .i64 tr] 27).alloc (opv h s) 40).alloc #[.int .i64 0, .int .u32 0, .slice none 0 0, .int .i64 0, .int .u32 0, .bool false, .slice none 0 0, .slice none 0 0, .int .i64 0, .int .i64 0, .int .i64 0, .int .i64 0, .int .i64 0, .int .u64 0, .bool false, .slice none 0 0, .int .i64 0, .int .i64 0, .int .i64 0, .int .i64 0] 40
  try simp only [World.size_alloc] at L
  replace L := L.is 0 (opv hd0 sc0) rfl
  try dsimp only [nput] at L
  generalize (((w).alloc (.cells #[.int .u32 (a : Int), .int .i64 p, .slice A n c, .int .i64 (ns : Int), .int .i64 wo, .int .i64 qu, .int .i64 tr] 27)).alloc (.cells (opv h s) 40)).alloc (.cells #[.int .i64 0, .int .u32 0, .slice none 0 0, .int .i64 0, .int .u32 0, .bool false, .slice none 0 0, .slice none 0 0, .int .i64 0, .int .i64 0, .int .i64 0, .int .i64 0, .int .i64 0, .int .u64 0, .bool false, .slice none 0 0, .int .i64 0, .int .i64 0, .int .i64 0, .int .i64 0] 40) = w1 at L ⊢
  generalize w.heap.size + 1 + 1 = gR at L ⊢
  generalize w.heap.size + 1 = gO at L ⊢
  generalize w.heap.size = gH at L ⊢
  go_wp2_with (refine wpList_load_row rfl 40 (.tmp 5) rfl gO rfl _ _ (0, 0) _ (L.bk_ 1 rfl) Tryz.underlying40 rfl op_sz ?_)
  have KS := L.K.size
  have LbO := L.gs
  refine ((TOwn _ (hL.below L.K)).out).mono ?_
  rintro e w2 ⟨h3, rfl, L', K'⟩
  have Lb := L.lts
  replace L := L.over K'
  replace L := L.lists Lb L'
  clear Lb
  try dsimp only [lF, List.cons_append, List.nil_append] at L
  clear L'
  have hlo3 := K'.size
  generalize w1.heap.size = lo3 at L LbO KS hlo3
  go_wp2_with fail
  have KP := L.K.size
  refine ((TP _ h3).out).mono ?_
  rintro e w3 ⟨rfl, K'⟩
  replace L := L.over K'
  have hlo4 := Nat.le_trans hlo3 K'.size
  go_upto_region 2 with (fail)
  rcases hff with rfl | rfl | rfl | rfl
  all_goals (
    go_wp2_with (refine wpList_load_row rfl 27 (.tmp 3) rfl gH rfl _ _ (0, 0) _ (L.bk_ 2 rfl) Tryz.underlying27 rfl cf_sz ?_)
    have KS2 := L.K.size
    refine ((TK _ lo3 h3 hlo4 (hU.below L.K) (L.lists_at 0 rfl)).out).mono ?_
    rintro e w4 ⟨h4, B2, d2, rfl, U, L', hA, K'⟩
    have Lb := L.lts
    replace L := L.over K'
    replace L := L.us_av (fun i b e => hA b.1 (Lb i b e) (hU.apart0 hm0 L i b e)) U
    replace L := L.lists' LbO L'
    clear Lb
    try dsimp only [lF, List.cons_append, List.nil_append] at L
    clear U L'
    go_wp2_with (refine wpList_store_row rfl 40 (.tmp 7) (.tmp 18) rfl gR _ rfl rfl _ _ (L.bk_ 0 rfl) op_sz rfl (opv_one _ _) ?_)
    replace L := (L.row 0 rfl (opv h4 s2))
    try dsimp only [nput] at L
    generalize (w4).setRow gR (opv h4 s2) = w5 at L ⊢
    refine bodyPost_ret (v := .tuple #[.slice B2 m d2, .agg (opv h4 s2), .bool b2]) ?_ rfl ?_
    · exact results_tct (fn := Tryz.f11) Tryz.results11 _ _ gR _ _ (0, 0) _ rfl (L.bk_ 0 rfl) Tryz.underlying40 rfl op_sz
    exact ⟨_, _, _, rfl, L.us_ 4 rfl, (L.lists_at 0 rfl).lower_ KS, fun k hk => hA k (Nat.lt_of_lt_of_le hk KS2), L.K⟩)
theorem xs_any (ha : a < 4294967296) (hM : Much a p M) (hE : EI a M zs o s) (hY : YI M zs ys) (hU : US w B m d ys) (hL : Lists lo w h ⟨xs, [], [], []⟩) (hx : xs.length ≤ 65536) :
    Calls Tryz.prog 11 #[.agg #[.int .u32 (a : Int), .int .i64 p, .slice A n c, .int .i64 (ns : Int), .int .i64 wo, .int .i64 qu, .int .i64 tr], .slice B m d, .agg (opv h s)] w (RetX (eS a M ys s) ⟨xs, [], [], []⟩ m (gC M ys s) (eB ys s) B w) := by
  have hm0 : 0 < m := by have := hU.len; have := hY.len; omega
  obtain ⟨z0, z1, z2, z3⟩ := hL.emp_
  simp only [List.length_nil] at z1 z2 z3
  dsimp only at z0
  rcases hE.ph with ⟨q, _⟩ | ⟨q, _⟩ | ⟨q | q, _⟩ | ⟨q, _⟩
  · refine xs_to (f := 63) (by decide) hm0 hU hL (by omega) (by omega) (by omega) (by omega) (fun w h => Lib.hid (xph8 q)) (fun w lo h hlo U L => Lib.hid ?_)
    rcases hE.kd with hk | hk
    · cases hb : (gt ys (o / 32)).testBit (o % 32) with
      | false => exact xf_take ha hM hE hY U L hx hlo q hk hb
      | true => exact xf_used ha hM hE hY U L hx hlo q hk hb
    · exact xf_ask ha hM hE hY U L hx hlo q hk
  · exact xs_to (f := 64) (by decide) hm0 hU hL (by omega) (by omega) (by omega) (by omega) (fun w h => Lib.hid (xph3 q)) (fun w lo h hlo U L => Lib.hid (xf_claim ha hM hE hY U L hx hlo q))
  · exact xs_to (f := 65) (by decide) hm0 hU hL (by omega) (by omega) (by omega) (by omega) (fun w h => Lib.hid (xph4 q)) (fun w lo h hlo U L => Lib.hid (xf_mark ha hM hE hY U L hx hlo (.inl q)))
  · exact xs_to (f := 65) (by decide) hm0 hU hL (by omega) (by omega) (by omega) (by omega) (fun w h => Lib.hid (xph5 q)) (fun w lo h hlo U L => Lib.hid (xf_mark ha hM hE hY U L hx hlo (.inr q)))
  · exact xs_to (f := 66) (by decide) hm0 hU hL (by omega) (by omega) (by omega) (by omega) (fun w h => Lib.hid (xph0 q)) (fun w lo h hlo U L => Lib.hid (xf_stay ha hM hE hY U L hx hlo q))
end
end Go.Proofs.YtacgjaohfcoigaaGreat
