/-
  The walk of the law ExactTwo: for every configuration, request and doings of others it answers true.
-/
import Derived.Test.YtacgjaohfcoigaaEx12
namespace Go.Proofs.Ytacgjaohfcoigaa.exactTwo
set_option maxRecDepth 100000
open Go.RowKit
set_option linter.unusedVariables false
section
variable {w : World} {lo lo2 lo3 lo4 a X k q k2 q2 n0 c0 : Nat} {p sh wo qu tr kd : Int} {A A0 E E2 : Option Addr} {n c : Nat} {zs xs es es2 : List Int}
/-- A list of bools in memory. -/
def BS (w : World) (E : Option Addr) (k : Nat) : Prop := 0 < k → ∃ b o, E = some ⟨b, o, none⟩ ∧ b < w.heap.size ∧ ∀ j, j < k → ∃ t, w.cell? ⟨b, o + j, none⟩ = some (.bool t)
/-- How long it still takes. -/
def Lft (k u : Nat) (ys : List Nat) (s1 s2 : Sc) : Prop := k ≤ u → (s1.phase ≠ 0 → mux ys s1 + 7 ≤ k + 40 - u) ∧ (s1.phase = 0 → mux ys s2 ≤ k + 40 - u)
theorem lft_start {k : Nat} {ys : List Nat} {s : Sc} : Lft k 0 ys s s := fun hk => by
  have m1 := mux_most (ys := ys) (s := s)
  exact ⟨fun _ => by omega, fun _ => by omega⟩
theorem two_start {a M o : Nat} {zs : List Int} {ys : List Nat} {s : Sc} (hE : EI a M zs o s) (hk : s.kind = 2) (hp : s.phase = 8) (hY : YI M zs ys) (h0 : os (uf zs ys) M = []) : TwoI a M zs o ys s s := by
  refine ⟨hE, hE, hk, hk, hY, .inl ⟨?_, h0, .inl hp, .inl hp⟩⟩
  have hus := has_os (zs := zs) (ys := ys) hE.oM hE.hh
  rw [h0] at hus
  unfold usd
  exact hus.symm
theorem lft_one {a M o k u : Nat} {zs : List Int} {ys : List Nat} {s1 s2 : Sc} (hM : M ≤ 65536) (h : TwoI a M zs o ys s1 s2) (hL : Lft k u ys s1 s2) (hu : u < k + 40) (hc : u < k ∨ s1.phase ≠ 0) : Lft k (u + 1) (gC M ys s1) (eS a M ys s1) s2 := fun hk => by
  have m1 := mux_most (ys := gC M ys s1) (s := eS a M ys s1)
  have m2 := mux_most (ys := gC M ys s1) (s := s2)
  rcases Nat.lt_or_ge u k with h1 | h1
  · exact ⟨fun _ => by omega, fun _ => by omega⟩
  · have hp : s1.phase ≠ 0 := by rcases hc with h | h; omega; exact h
    have q := (hL h1).1 hp
    have st := mux_step hM h.e1 h.yi hp
    exact ⟨fun _ => by omega, fun _ => by omega⟩
theorem lft_two {a M o k u : Nat} {zs : List Int} {ys : List Nat} {s1 s2 : Sc} (hM : M ≤ 65536) (h : TwoI a M zs o ys s1 s2) (hL : Lft k u ys s1 s2) (hu : u < k + 40) (hc : u < k ∨ s1.phase = 0) : Lft k (u + 1) (gC M ys s2) s1 (eS a M ys s2) := fun hk => by
  have m1 := mux_most (ys := gC M ys s2) (s := s1)
  have m2 := mux_most (ys := gC M ys s2) (s := eS a M ys s2)
  rcases Nat.lt_or_ge u k with h1 | h1
  · exact ⟨fun _ => by omega, fun _ => by omega⟩
  · have hp : s1.phase = 0 := by rcases hc with h | h; omega; exact h
    have q := (hL h1).2 hp
    refine ⟨fun h => absurd hp h, fun _ => ?_⟩
    by_cases h2 : s2.phase = 0
    · obtain ⟨e1, e2, _⟩ := es_done (a := a) (M := M) (ys := ys) h2
      rw [e1, e2, mux_done h2]; omega
    · have st := mux_step hM h.e2 h.yi h2
      omega
set_option maxRecDepth 100000 in
set_option maxHeartbeats 2000000 in
theorem far (ha : a < 4294967296) (h0 : IS .i64 lo w A n c zs) (hX : X < 4294967296) (hkm : k ≤ maxLen) (hE : BS w E k) (hk : 60 < k) :
    Calls Try.prog 5 #[.agg #[.int .u32 (a : Int), .int .i64 p, .slice A n c, .int .i64 sh, .int .i64 wo, .int .i64 qu, .int .i64 tr], .int .u32 (X : Int), .slice E k q] w (RetBo true w) := by
  have f0 : decide ((60 : Int) < (k : Int)) = true := by simp; omega
  go_enter Try.func5, Try.ntmps5
  go_upto_region 1 with (fail)
  have L := Loc.start w
  replace L := (L).alloc #[.int .u32 (a : Int), .int .i64 p, .slice A n c, .int .i64 sh, .int .i64 wo, .int .i64 qu, .int .i64 tr] 27
  try simp only [World.size_alloc] at L
  try dsimp only [nput] at L
  generalize (w).alloc (.cells #[.int .u32 (a : Int), .int .i64 p, .slice A n c, .int .i64 sh, .int .i64 wo, .int .i64 qu, .int .i64 tr] 27) = w1 at L ⊢
  generalize w.heap.size = gH at L ⊢
  go_wp2_with fail
  refine (awake_any _).mono ?_
  rintro e w2 ⟨rfl, K'⟩
  replace L := L.over K'
  go_wp2_with (refine wpList_load_want (by rfl) 27 (.tmp 3) rfl gH rfl _ _ (0, 0) _ (L.bk_ 0 rfl) Try.underlying27 rfl cf_sz ?_)
  refine (right_any ha (h0.below L.K) (IS.none_ .u32 0 _) hX (by intro y hy; cases hy)).mono ?_
  rintro e w3 ⟨bo, rfl, hB, K'⟩
  replace L := L.over K'
  rcases bo with _ | _
  · clear hB
    go_wp2_with fail
    refine (awake_any _).mono ?_
    rintro e w92 ⟨rfl, K'⟩
    replace L := L.over K'
    go_wp2
    go_ret
    exact ⟨rfl, L.K⟩
  replace hB := hB rfl
  clear hB
  go_wp2_with fail
  refine (awake_any _).mono ?_
  rintro e w4 ⟨rfl, K'⟩
  replace L := L.over K'
  go_wp2
  go_ret
  exact ⟨rfl, L.K⟩
set_option maxRecDepth 100000 in
set_option maxHeartbeats 4000000 in
theorem near (ha : a < 4294967296) (h0 : IS .i64 lo w A n c zs) (hX : X < 4294967296) (hkm : k ≤ maxLen) (hE : BS w E k) (hk : k ≤ 60) :
    Calls Try.prog 5 #[.agg #[.int .u32 (a : Int), .int .i64 p, .slice A n c, .int .i64 sh, .int .i64 wo, .int .i64 qu, .int .i64 tr], .int .u32 (X : Int), .slice E k q] w (RetBo true w) := by
  have f0 : decide ((60 : Int) < (k : Int)) = false := by simp; omega
  have hH0 : Lists 0 w hd0 ⟨[], [], [], []⟩ := ⟨IS.none_ _ _ _, IS.none_ _ _ _, IS.none_ _ _ _, IS.none_ _ _ _⟩
  replace hE := Lib.hid hE
  go_enter Try.func5, Try.ntmps5
  go_upto_region 1 with (fail)
  have L := Loc.start w
  replace L := (L).alloc #[.int .u32 (a : Int), .int .i64 p, .slice A n c, .int .i64 sh, .int .i64 wo, .int .i64 qu, .int .i64 tr] 27
  try simp only [World.size_alloc] at L
  try dsimp only [nput] at L
  generalize (w).alloc (.cells #[.int .u32 (a : Int), .int .i64 p, .slice A n c, .int .i64 sh, .int .i64 wo, .int .i64 qu, .int .i64 tr] 27) = w1 at L ⊢
  generalize w.heap.size = gH at L ⊢
  go_wp2_with fail
  refine (awake_any _).mono ?_
  rintro e w2 ⟨rfl, K'⟩
  replace L := L.over K'
  go_wp2_with (refine wpList_load_want (by rfl) 27 (.tmp 3) rfl gH rfl _ _ (0, 0) _ (L.bk_ 0 rfl) Try.underlying27 rfl cf_sz ?_)
  refine (right_any ha (h0.below L.K) (IS.none_ .u32 0 _) hX (by intro y hy; cases hy)).mono ?_
  rintro e w3 ⟨bo, rfl, hB, K'⟩
  replace L := L.over K'
  rcases bo with _ | _
  · clear hB
    go_wp2_with fail
    refine (awake_any _).mono ?_
    rintro e w92 ⟨rfl, K'⟩
    replace L := L.over K'
    go_wp2
    go_ret
    exact ⟨rfl, L.K⟩
  replace hB := hB rfl
  obtain ⟨⟨M, ns, hC, hfi⟩, hn1, hkd⟩ := hB
  obtain ⟨o, hxo, hoM, hho⟩ := fi_in hfi
  clear hfi
  have hshe := hC.ns_
  subst hshe
  have hM := hC.much
  have h1 := hC.ns1
  have h2 := hC.ns2
  have hM9 := hC.sml
  have hMp := hM.pos
  have hMm := hM.most
  have hn9 := hC.few
  have hfit := hM.fits ha
  have hlv : lv M ≤ 8 ∧ 1 ≤ lv M ∧ tv M = 1 := by unfold tv tq lv; omega
  obtain ⟨m, hm⟩ : ∃ m, m = lv M + tv M + 1 := ⟨_, rfl⟩
  have hm6 : m ≤ 65536 ∧ 0 < m ∧ lv M ≤ m := by omega
  obtain ⟨y0, hy0⟩ : ∃ y0, y0 = cl (nw M zs) (lv M) (tv M) (lv M) := ⟨_, rfl⟩
  have hY0 := yi_start (M := M) (zs := zs)
  have TW := fun w (h : IS .i64 lo w A n c zs) => Lib.hid (wcells_new (w := w) (sh := (ns : Int)) (wo := wo) (qu := qu) (tr := tr) ha hM h (by omega) hC.ris)
  rw [← hy0] at hY0
  simp only [← hy0, ← hm] at TW
  replace hm := Lib.hid hm
  clear hy0
  have TD := fun w D B d ys (hD : D < 4294967296) (hY : YI M zs ys) (h : IS .i64 lo w A n c zs) (U : US w B m d ys) => Lib.hid (dist_any (w := w) (p := p) (wo := wo) (qu := qu) (tr := tr) hD hC h hY U)
  have TO := fun w B d ys (h : IS .i64 lo w A n c zs) (U : US w B m d ys) => Lib.hid (rof_new (w := w) (sh := (ns : Int)) (wo := wo) (qu := qu) (tr := tr) hM h (by omega) U hm6.2.2 hm6.1)
  replace hC := Lib.hid hC
  have TS := fun w lo h B d ys s (hEI : EI a M zs o s) (hY : YI M zs ys) (U : US w B m d ys) (L : Lists lo w h ⟨[], [], [], []⟩) => Lib.hid (xs_any (w := w) (ns := ns) (wo := wo) (qu := qu) (tr := tr) (A := A) (n := n) (c := c) ha hM hEI hY U L (Nat.zero_le _))
  have TB := fun w => Lib.hid (xbegin_any (w := w) (ns := ns) (kd := 2) (p := p) (wo := wo) (qu := qu) (tr := tr) (A := A) (n := n) (c := c) ha hM hX hxo hoM (IS.none_ .u32 0 w) (by omega))
  obtain ⟨s0, hs0⟩ : ∃ s0, s0 = eS0 2 (X : Int) o := ⟨_, rfl⟩
  have hE0 : EI a M zs o s0 := by rw [hs0]; exact ei_start (.inl rfl) hoM hho
  have h2s : TwoI a M zs o y0 s0 s0 := two_start hE0 (by rw [hs0]; rfl) (by rw [hs0]; rfl) hY0.1 hY0.2
  simp only [← hs0] at TB
  clear hs0
  replace hxo := Lib.hid hxo
  go_upto_region 3 with fail
  go_wp2_with (refine wpList_load_row rfl 27 (.tmp 3) rfl gH rfl _ _ (0, 0) _ (L.bk_ 0 rfl) Try.underlying27 rfl cf_sz ?_)
  refine ((TW _ (h0.below L.K)).out).mono ?_
  rintro e w4 ⟨gU, dU, rfl, U, hgU, K'⟩
  have Lb := L.lts
  replace L := L.over K'
  replace L := L.us_av (fun i b e b' o e' => by injection e' with e'; injection e' with e1; have := Lb i b e; omega) U
  clear Lb
  try dsimp only [lF, List.cons_append, List.nil_append] at L
  clear U hgU
  go_wp2_with (refine wpList_load_row rfl 27 (.tmp 3) rfl gH rfl _ _ (0, 0) _ (L.bk_ 0 rfl) Try.underlying27 rfl cf_sz ?_)
  refine ((TB _).out).mono ?_
  rintro e w5 ⟨h6, rfl, L', hSA, K'⟩
  have Lb := L.lts
  replace L := L.over K'
  replace L := L.of_ap L' (fun i b e => hSA b.1 (Lb i b e) (hH0.hap L i b e))
  clear Lb
  try dsimp only [lF, List.cons_append, List.nil_append] at L
  clear L' hSA
  go_upto_region 5 with (refine wpList_store_row rfl 44 (.tmp 8) (.tmp 31) rfl _ _ rfl (show _ = Value.agg (opv h6 s0) from rfl) _ _ (Bk.new _ _ _) op_sz rfl (opv_one _ _) ?_)
  try rw [World.setRow_alloc_new]
  replace L := (L).alloc (opv h6 s0) 44
  try simp only [World.size_alloc] at L
  try dsimp only [nput] at L
  generalize (w5).alloc (.cells (opv h6 s0) 44) = w6 at L ⊢
  generalize w5.heap.size = gO at L ⊢
  go_upto_region 6 with (first | (refine wpList_load_row rfl 44 (.tmp 8) rfl gO rfl _ _ (0, 0) _ (L.bk_ 0 rfl) Try.underlying44 rfl op_sz ?_) | (refine wpList_store_row rfl 44 (.tmp 9) (.tmp 32) rfl _ _ rfl (show _ = Value.agg (opv h6 s0) from rfl) _ _ (Bk.new _ _ _) op_sz rfl (opv_one _ _) ?_))
  try rw [World.setRow_alloc_new]
  replace L := (L).alloc (opv h6 s0) 44
  try simp only [World.size_alloc] at L
  try dsimp only [nput] at L
  generalize (w6).alloc (.cells (opv h6 s0) 44) = w7 at L ⊢
  generalize w6.heap.size = gP at L ⊢
  go_wp2
  clear TB TW TD
  replace L := L.only (fs' := [oF h6 ⟨[], [], [], []⟩, uF (some ⟨gU, 0, none⟩) m dU y0]) (by simp)
  have w40 : IntKind.i64.wrap ((k : Int) + 40) = (k : Int) + 40 := IntWalk.i64_in _ (by omega)
  go_loopw [7, 10] (fun lv_ iv wr => ∃ (u : Nat) (h hr : Hd) (s1 s2 : Sc) (B2 : Option Addr) (d2 : Nat) (y2 : List Nat), u ≤ k + 40 ∧ lv_ = .slice B2 m d2 ∧ iv = .int .i64 (u : Nat) ∧ TwoI a M zs o y2 s1 s2 ∧ Lft k u y2 s1 s2 ∧ Loc w wr [(gP, 44, opv hr s2), (gO, 44, opv h s1), (gH, 27, #[.int .u32 (a : Int), .int .i64 p, .slice A n c, .int .i64 (ns : Int), .int .i64 wo, .int .i64 qu, .int .i64 tr])] [oF h ⟨[], [], [], []⟩, oF hr ⟨[], [], [], []⟩, uF B2 m d2 y2]) (fun _ iv _ => k + 40 - (intOf iv).toNat)
  case atStart =>
    replace L := L.of_ap (L.of_ 0 rfl) (L.of_av 0 rfl)
    replace L := L.only (fs' := [oF h6 ⟨[], [], [], []⟩, oF h6 ⟨[], [], [], []⟩, uF (some ⟨gU, 0, none⟩) m dU y0]) (by simp)
    exact ⟨0, h6, h6, s0, s0, _, _, y0, by omega, rfl, rfl, h2s, lft_start, L⟩
  case round =>
    clear L
    obtain ⟨u, h, hr, s1, s2, B2, d2, y2, hu, rfl, rfl, hT, hLf, L⟩ := hrel
    by_cases hlt : u < k + 40
    · have hu2 : (u : Int) < (k : Int) + 40 := by omega
      by_cases huk : u < k
      · obtain ⟨be, oe, hEe, hbe, hce⟩ := hE.out (by omega)
        subst hEe
        obtain ⟨t, hce⟩ := hce u huk
        have hu3 : (u : Int) < (k : Int) := by omega
        have hu4 : decide ((k : Int) ≤ (u : Int)) = false := by simp; omega
        have hcs : u < k ∨ s1.phase ≠ 0 := .inl huk
        have hcs2 : u < k ∨ s1.phase = 0 := .inl huk
        cases t
        rotate_left
        · have XE := (L.K.cell (p := ⟨be, oe + u, none⟩) hbe).trans hce
          go_upto_region 10 with fail
          clear XE
          have hT2 := two_step hMm hfit hT
          have hL2 := lft_one hMm hT hLf hlt hcs
          have TK := fun w lo h B d U L => TS w lo h B d y2 s1 hT.e1 hT.yi U L
          obtain ⟨s3, hs3⟩ : ∃ s3, s3 = eS a M y2 s1 := ⟨_, rfl⟩
          obtain ⟨y4, hy4⟩ : ∃ y4, y4 = gC M y2 s1 := ⟨_, rfl⟩
          obtain ⟨b3, hb3⟩ : ∃ b3, b3 = eB y2 s1 := ⟨_, rfl⟩
          simp only [← hs3, ← hy4, ← hb3] at TK hT2 hL2
          clear hs3 hy4 hb3 hT hLf TS
          replace hT2 := Lib.hid hT2
          replace hL2 := Lib.hid hL2
          go_wp2_with (first | (refine wpList_load_row rfl 27 (.tmp 3) rfl gH rfl _ _ (0, 0) _ (L.bk_ 2 rfl) Try.underlying27 rfl cf_sz ?_) | (refine wpList_load_row rfl 44 (.tmp 8) rfl gO rfl _ _ (0, 0) _ (L.bk_ 1 rfl) Try.underlying44 rfl op_sz ?_))
          refine ((TK _ _ _ _ _ (L.us_ 2 rfl) (L.of_ 0 rfl)).out).mono ?_
          rintro e w8 ⟨h4, B4, d4, rfl, U, L', hA, K'⟩
          have Lb := L.lts
          replace L := L.over K'
          replace L := L.us_av (fun i b e => hA b.1 (Lb i b e) (L.ap_ 2 rfl hm6.2.1 i b e)) U
          replace L := L.of_new Lb L'
          clear Lb
          try dsimp only [lF, List.cons_append, List.nil_append] at L
          clear U L' hA
          go_upto_region 8 with (refine wpList_store_row rfl 44 (.tmp 8) (.tmp 67) rfl gO _ rfl rfl _ _ (L.bk_ 1 rfl) op_sz rfl (opv_one _ _) ?_)
          replace L := (L.row 1 rfl (opv h4 s3))
          try dsimp only [nput] at L
          generalize (w8).setRow gO (opv h4 s3) = w9 at L ⊢
          go_wp2
          replace L := L.only (fs' := [oF h4 ⟨[], [], [], []⟩, oF hr ⟨[], [], [], []⟩, uF B4 m d4 y4]) (by simp)
          go_roundw
          case rel => exact ⟨u + 1, h4, hr, s3, s2, B4, d4, y4, by omega, rfl, by go_num, hT2.out, hL2.out, L⟩
          case measure => simp [intOf]; omega
        · replace hcs := hcs2
          have XE := (L.K.cell (p := ⟨be, oe + u, none⟩) hbe).trans hce
          go_upto_region 11 with fail
          clear XE
          have hT2 := (two_step hMm hfit hT.swap).swap
          have hL2 := lft_two hMm hT hLf hlt hcs
          have TK := fun w lo h B d U L => TS w lo h B d y2 s2 hT.e2 hT.yi U L
          obtain ⟨s3, hs3⟩ : ∃ s3, s3 = eS a M y2 s2 := ⟨_, rfl⟩
          obtain ⟨y4, hy4⟩ : ∃ y4, y4 = gC M y2 s2 := ⟨_, rfl⟩
          obtain ⟨b3, hb3⟩ : ∃ b3, b3 = eB y2 s2 := ⟨_, rfl⟩
          simp only [← hs3, ← hy4, ← hb3] at TK hT2 hL2
          clear hs3 hy4 hb3 hT hLf TS
          replace hT2 := Lib.hid hT2
          replace hL2 := Lib.hid hL2
          go_wp2_with (first | (refine wpList_load_row rfl 27 (.tmp 3) rfl gH rfl _ _ (0, 0) _ (L.bk_ 2 rfl) Try.underlying27 rfl cf_sz ?_) | (refine wpList_load_row rfl 44 (.tmp 9) rfl gP rfl _ _ (0, 0) _ (L.bk_ 0 rfl) Try.underlying44 rfl op_sz ?_))
          refine ((TK _ _ _ _ _ (L.us_ 2 rfl) (L.of_ 1 rfl)).out).mono ?_
          rintro e w8 ⟨h4, B4, d4, rfl, U, L', hA, K'⟩
          have Lb := L.lts
          replace L := L.over K'
          replace L := L.us_av (fun i b e => hA b.1 (Lb i b e) (L.ap_ 2 rfl hm6.2.1 i b e)) U
          replace L := L.of_new Lb L'
          clear Lb
          try dsimp only [lF, List.cons_append, List.nil_append] at L
          clear U L' hA
          go_upto_region 8 with (refine wpList_store_row rfl 44 (.tmp 9) (.tmp 75) rfl gP _ rfl rfl _ _ (L.bk_ 0 rfl) op_sz rfl (opv_one _ _) ?_)
          replace L := (L.row 0 rfl (opv h4 s3))
          try dsimp only [nput] at L
          generalize (w8).setRow gP (opv h4 s3) = w9 at L ⊢
          go_wp2
          replace L := L.only (fs' := [oF h ⟨[], [], [], []⟩, oF h4 ⟨[], [], [], []⟩, uF B4 m d4 y4]) (by simp)
          go_roundw
          case rel => exact ⟨u + 1, h, h4, s1, s3, B4, d4, y4, by omega, rfl, by go_num, hT2.out, hL2.out, L⟩
          case measure => simp [intOf]; omega
      · have hu3 : ¬ ((u : Int) < (k : Int)) := by omega
        have hu4 : (k : Int) ≤ (u : Int) := by omega
        by_cases hp : s1.phase = 0
        · have hcs : u < k ∨ s1.phase = 0 := .inr hp
          have O_8 := L.at_ 1 8 rfl (v := .int .i64 0) (by show some (Value.int .i64 s1.phase) = _; rw [hp])
          have O_z := L.lt 1 rfl
          go_upto_region 11 with fail
          clear O_8 O_z
          have hT2 := (two_step hMm hfit hT.swap).swap
          have hL2 := lft_two hMm hT hLf hlt hcs
          have TK := fun w lo h B d U L => TS w lo h B d y2 s2 hT.e2 hT.yi U L
          obtain ⟨s3, hs3⟩ : ∃ s3, s3 = eS a M y2 s2 := ⟨_, rfl⟩
          obtain ⟨y4, hy4⟩ : ∃ y4, y4 = gC M y2 s2 := ⟨_, rfl⟩
          obtain ⟨b3, hb3⟩ : ∃ b3, b3 = eB y2 s2 := ⟨_, rfl⟩
          simp only [← hs3, ← hy4, ← hb3] at TK hT2 hL2
          clear hs3 hy4 hb3 hT hLf TS
          replace hT2 := Lib.hid hT2
          replace hL2 := Lib.hid hL2
          go_wp2_with (first | (refine wpList_load_row rfl 27 (.tmp 3) rfl gH rfl _ _ (0, 0) _ (L.bk_ 2 rfl) Try.underlying27 rfl cf_sz ?_) | (refine wpList_load_row rfl 44 (.tmp 9) rfl gP rfl _ _ (0, 0) _ (L.bk_ 0 rfl) Try.underlying44 rfl op_sz ?_))
          refine ((TK _ _ _ _ _ (L.us_ 2 rfl) (L.of_ 1 rfl)).out).mono ?_
          rintro e w8 ⟨h4, B4, d4, rfl, U, L', hA, K'⟩
          have Lb := L.lts
          replace L := L.over K'
          replace L := L.us_av (fun i b e => hA b.1 (Lb i b e) (L.ap_ 2 rfl hm6.2.1 i b e)) U
          replace L := L.of_new Lb L'
          clear Lb
          try dsimp only [lF, List.cons_append, List.nil_append] at L
          clear U L' hA
          go_upto_region 8 with (refine wpList_store_row rfl 44 (.tmp 9) (.tmp 75) rfl gP _ rfl rfl _ _ (L.bk_ 0 rfl) op_sz rfl (opv_one _ _) ?_)
          replace L := (L.row 0 rfl (opv h4 s3))
          try dsimp only [nput] at L
          generalize (w8).setRow gP (opv h4 s3) = w9 at L ⊢
          go_wp2
          replace L := L.only (fs' := [oF h ⟨[], [], [], []⟩, oF h4 ⟨[], [], [], []⟩, uF B4 m d4 y4]) (by simp)
          go_roundw
          case rel => exact ⟨u + 1, h, h4, s1, s3, B4, d4, y4, by omega, rfl, by go_num, hT2.out, hL2.out, L⟩
          case measure => simp [intOf]; omega
        · have hcs : u < k ∨ s1.phase ≠ 0 := .inr hp
          have hp1 : (s1.phase != 0) = true := by simp [hp]
          have O_8 := L.at_ 1 8 rfl (v := .int .i64 s1.phase) rfl
          have O_z := L.lt 1 rfl
          go_upto_region 10 with fail
          clear O_8 O_z
          have hT2 := two_step hMm hfit hT
          have hL2 := lft_one hMm hT hLf hlt hcs
          have TK := fun w lo h B d U L => TS w lo h B d y2 s1 hT.e1 hT.yi U L
          obtain ⟨s3, hs3⟩ : ∃ s3, s3 = eS a M y2 s1 := ⟨_, rfl⟩
          obtain ⟨y4, hy4⟩ : ∃ y4, y4 = gC M y2 s1 := ⟨_, rfl⟩
          obtain ⟨b3, hb3⟩ : ∃ b3, b3 = eB y2 s1 := ⟨_, rfl⟩
          simp only [← hs3, ← hy4, ← hb3] at TK hT2 hL2
          clear hs3 hy4 hb3 hT hLf TS
          replace hT2 := Lib.hid hT2
          replace hL2 := Lib.hid hL2
          go_wp2_with (first | (refine wpList_load_row rfl 27 (.tmp 3) rfl gH rfl _ _ (0, 0) _ (L.bk_ 2 rfl) Try.underlying27 rfl cf_sz ?_) | (refine wpList_load_row rfl 44 (.tmp 8) rfl gO rfl _ _ (0, 0) _ (L.bk_ 1 rfl) Try.underlying44 rfl op_sz ?_))
          refine ((TK _ _ _ _ _ (L.us_ 2 rfl) (L.of_ 0 rfl)).out).mono ?_
          rintro e w8 ⟨h4, B4, d4, rfl, U, L', hA, K'⟩
          have Lb := L.lts
          replace L := L.over K'
          replace L := L.us_av (fun i b e => hA b.1 (Lb i b e) (L.ap_ 2 rfl hm6.2.1 i b e)) U
          replace L := L.of_new Lb L'
          clear Lb
          try dsimp only [lF, List.cons_append, List.nil_append] at L
          clear U L' hA
          go_upto_region 8 with (refine wpList_store_row rfl 44 (.tmp 8) (.tmp 67) rfl gO _ rfl rfl _ _ (L.bk_ 1 rfl) op_sz rfl (opv_one _ _) ?_)
          replace L := (L.row 1 rfl (opv h4 s3))
          try dsimp only [nput] at L
          generalize (w8).setRow gO (opv h4 s3) = w9 at L ⊢
          go_wp2
          replace L := L.only (fs' := [oF h4 ⟨[], [], [], []⟩, oF hr ⟨[], [], [], []⟩, uF B4 m d4 y4]) (by simp)
          go_roundw
          case rel => exact ⟨u + 1, h4, hr, s3, s2, B4, d4, y4, by omega, rfl, by go_num, hT2.out, hL2.out, L⟩
          case measure => simp [intOf]; omega
    · have huk : u = k + 40 := by omega
      have hno : ¬ ((u : Int) < (k : Int) + 40) := by omega
      have hz := hLf (by omega)
      have p1 : s1.phase = 0 := Classical.byContradiction fun h => by have := hz.1 h; omega
      have p2 : s2.phase = 0 := mux_zero (ys := y2) (by have := hz.2 p1; omega)
      obtain ⟨hos, hee⟩ := two_end hT p1 p2
      clear hz hLf hu
      have TO2 := fun w B d h U => TO w B d y2 h U
      rw [hos] at TO2
      clear hos hT TS TO
      rcases hee with ⟨q1, q2⟩ | ⟨q1, q2⟩
      · have O_8 := L.at_ 1 8 rfl (v := .int .i64 0) (by show some (Value.int .i64 s1.phase) = _; rw [p1])
        have O_z := L.lt 1 rfl
        have P_8 := L.at_ 0 8 rfl (v := .int .i64 0) (by show some (Value.int .i64 s2.phase) = _; rw [p2])
        have P_z := L.lt 0 rfl
        go_upto_region 14 with fail
        clear O_8 O_z P_8 P_z
        have O_3 := L.at_ 1 3 rfl (v := .int .i64 0) (by show some (Value.int .i64 s1.err) = _; rw [q1])
        have O_z := L.lt 1 rfl
        have P_3 := L.at_ 0 3 rfl (v := .int .i64 5) (by show some (Value.int .i64 s2.err) = _; rw [q2])
        have P_z := L.lt 0 rfl
        have O_3 := L.at_ 1 3 rfl (v := .int .i64 0) (by show some (Value.int .i64 s1.err) = _; rw [q1])
        have O_z := L.lt 1 rfl
        have P_3 := L.at_ 0 3 rfl (v := .int .i64 5) (by show some (Value.int .i64 s2.err) = _; rw [q2])
        have P_z := L.lt 0 rfl
        go_wp2_with (refine wpList_load_want (by rfl) 27 (.tmp 3) rfl gH rfl _ _ (0, 0) _ (L.bk_ 2 rfl) Try.underlying27 rfl cf_sz ?_)
        refine ((TO2 _ _ _ (h0.below L.K) (L.us_ 2 rfl)).out).mono ?_
        rintro e w8 ⟨Ax, nx, cx, rfl, I, K'⟩
        clear O_3 O_z P_3 P_z
        have Lb := L.lts
        replace L := L.over K'
        replace L := L.is_new Lb I
        clear Lb
        try dsimp only [lF, List.cons_append, List.nil_append] at L
        have hnx : nx = 1 := by have := I.len; simpa using this.symm
        subst hnx
        clear I
        go_wp2
        go_ret
        exact ⟨rfl, L.K⟩
      · have O_8 := L.at_ 1 8 rfl (v := .int .i64 0) (by show some (Value.int .i64 s1.phase) = _; rw [p1])
        have O_z := L.lt 1 rfl
        have P_8 := L.at_ 0 8 rfl (v := .int .i64 0) (by show some (Value.int .i64 s2.phase) = _; rw [p2])
        have P_z := L.lt 0 rfl
        go_upto_region 14 with fail
        clear O_8 O_z P_8 P_z
        have O_3 := L.at_ 1 3 rfl (v := .int .i64 5) (by show some (Value.int .i64 s1.err) = _; rw [q1])
        have O_z := L.lt 1 rfl
        have P_3 := L.at_ 0 3 rfl (v := .int .i64 0) (by show some (Value.int .i64 s2.err) = _; rw [q2])
        have P_z := L.lt 0 rfl
        have O_3 := L.at_ 1 3 rfl (v := .int .i64 5) (by show some (Value.int .i64 s1.err) = _; rw [q1])
        have O_z := L.lt 1 rfl
        go_wp2_with (refine wpList_load_want (by rfl) 27 (.tmp 3) rfl gH rfl _ _ (0, 0) _ (L.bk_ 2 rfl) Try.underlying27 rfl cf_sz ?_)
        refine ((TO2 _ _ _ (h0.below L.K) (L.us_ 2 rfl)).out).mono ?_
        rintro e w8 ⟨Ax, nx, cx, rfl, I, K'⟩
        clear O_3 O_z P_3 P_z
        have Lb := L.lts
        replace L := L.over K'
        replace L := L.is_new Lb I
        clear Lb
        try dsimp only [lF, List.cons_append, List.nil_append] at L
        have hnx : nx = 1 := by have := I.len; simpa using this.symm
        subst hnx
        clear I
        go_wp2
        go_ret
        exact ⟨rfl, L.K⟩
theorem main (ha : a < 4294967296) (h0 : IS .i64 lo w A n c zs) (hX : X < 4294967296) (hkm : k ≤ maxLen) (hE : BS w E k) :
    Calls Try.prog 5 #[.agg #[.int .u32 (a : Int), .int .i64 p, .slice A n c, .int .i64 sh, .int .i64 wo, .int .i64 qu, .int .i64 tr], .int .u32 (X : Int), .slice E k q] w (RetBo true w) := by
  by_cases hk : k ≤ 60
  · exact near ha h0 hX hkm hE hk
  · exact far ha h0 hX hkm hE (by omega)
end
theorem walk (a p : Int) (A : Option Addr) (n c : Nat) (z : List Int) (sh wo qu tr : Int) (x : Int) (E : Option Addr) (k q : Nat) (w : World) (wa : (Lit.int .u32 a).wf = true) (wr : IsRow .i64 w A n c z) (wx : (Lit.int .u32 x).wf = true) (hkm : k ≤ maxLen) (wb : BS w E k) :
    Calls Try.prog 5 #[.agg #[.int .u32 a, .int .i64 p, .slice A n c, .int .i64 sh, .int .i64 wo, .int .i64 qu, .int .i64 tr], .int .u32 x, .slice E k q] w fun e w' => e = .returned (.bool true) ∧ Below w.heap.size w w' := by
  obtain ⟨a, rfl, ha⟩ := wf_u32 wa
  obtain ⟨zs, h0, _⟩ := IS.of_row wr
  obtain ⟨X, rfl, hX⟩ := wf_u32 wx
  exact main ha h0 hX hkm wb
end Go.Proofs.Ytacgjaohfcoigaa.exactTwo
