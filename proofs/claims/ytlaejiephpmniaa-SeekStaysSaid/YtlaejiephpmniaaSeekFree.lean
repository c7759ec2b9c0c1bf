/-
  What seek.free answers: the first of the shard's leaves in a top whose bit there isn't set, and whether there is one. Conditions: cells that there are, tops that are handed out by the iterator.
-/
import Derived.Test.YtlaejiephpmniaaSeekOn
namespace Go.Proofs.Ytlaejiephpmniaa
open Go.RowKit Go.Shelf
set_option linter.unusedVariables false
attribute [local go_sem] Oper.semAt_some
theorem inT_yes {a b t : Nat} (h : a / 64 ≤ t ∧ t < a / 64 + cnt_ a b) : inT a b t = true := by unfold inT; exact decide_eq_true h
theorem inT_no {a b t : Nat} (h : ¬ (a / 64 ≤ t ∧ t < a / 64 + cnt_ a b)) : inT a b t = false := by unfold inT; exact decide_eq_false h
theorem results_ib {P : Program} {fn : Func} {q r : Tmp} {ty ty' : TypeId} (h : fn.results = #[.cell q ty, .cell r ty']) (tmps : Array Value) (w : World) (g g' : Nat) (u v : Value) (d d' : TypeDesc)
    (hp : tmps.getD q undef = .pointer (some ⟨g, 0, none⟩)) (hp' : tmps.getD r undef = .pointer (some ⟨g', 0, none⟩)) (hg : w.cell? ⟨g, 0, none⟩ = some u) (hg' : w.cell? ⟨g', 0, none⟩ = some v)
    (hz : (loadVar ty ⟨g, 0, none⟩).run P w = .ok u w) (hz' : (loadVar ty' ⟨g', 0, none⟩).run P w = .ok v w) :
    (results fn tmps).run P w = .ok (.tuple #[u, v]) w := by
  have hq : tmps[q]?.getD undef = .pointer (some ⟨g, 0, none⟩) := by simpa using hp
  have hq' : tmps[r]?.getD undef = .pointer (some ⟨g', 0, none⟩) := by simpa using hp'
  simp [results, h, hq, hq', asAddr, hz, hz']
section
variable {w : World} {M a b b1 b2 b3 m d t : Nat} {B : Option Addr} {ys : List Nat}
set_option maxRecDepth 100000 in
set_option maxHeartbeats 4000000 in
theorem free_any (hM : M ≤ 65536) (hab : a ≤ b) (hb : b ≤ lv M) (hU : US w B m d ys) (hm : lv M + tv M < m) (ht : t ≤ 64) (hC : Clo w b1 b2 b3 M a b) :
    Calls Try.prog 31 #[.slice B m d, tpsV b1 b2 b3, .int .i64 (t : Int)] w fun e w' => ∃ i bo, e = .returned (.tuple #[.int .i64 i, .bool bo]) ∧ (bo = true → ∃ j : Nat, i = (j : Int) ∧ fre a b (gt ys (lv M + t)) t = some j) ∧ (bo = false → fre a b (gt ys (lv M + t)) t = none) ∧ Below w.heap.size w w' := by
  have TF := fun q f1 f2 (h1 : f1 ≤ 64) (h2 : f2 ≤ 64) w => Lib.hid (hfind_any (gt ys q) f1 f2 (gt_lt hU.fit q) h1 h2 w)
  have TL := fun q (hq : q < m) w (U : US w B m d ys) => Lib.hid (load_nat U q hq)
  refine (callsIn_wide (n := 5)).1 ?_
  refine callsIn_of_wp_marks Try.func31 rfl trivial ?_ rfl
  simp only [Try.ntmps31, List.size_toArray, List.length_cons, List.length_nil, Nat.reduceAdd, Nat.reduceSub, Array.replicate_succ, Array.replicate_zero, List.push_toArray, List.append_toArray, List.nil_append, List.cons_append]
  gi_wp2
  have L := Loc.start w
  replace L := ((((L).alloc #[.slice B m d] 28).alloc #[.int .i64 (t : Int)] 3).alloc #[.int .i64 0] 3).alloc #[.bool false] 4
  try simp only [World.size_alloc] at L
  generalize ((((w).alloc (.cells #[.slice B m d] 28)).alloc (.cells #[.int .i64 (t : Int)] 3)).alloc (.cells #[.int .i64 0] 3)).alloc (.cells #[.bool false] 4) = W0 at L ⊢
  generalize w.heap.size + 1 + 1 + 1 = gB at L ⊢
  generalize w.heap.size + 1 + 1 = gI at L ⊢
  generalize w.heap.size + 1 = gN at L ⊢
  generalize w.heap.size = gL at L ⊢
  have hz := L.K.size
  have hC0 := hC.below L.K
  refine wpIn_rangeFunc_ownH (F := Fence.wide) rfl (by decide) (gf := 53) (lb := #[.pointer (some ⟨b1, 0, none⟩), .pointer (some ⟨b2, 0, none⟩), .pointer (some ⟨b3, 0, none⟩)]) rfl trivial (enters_of Try.func53 (by kernel_rfl) rfl)
    (tops_stops hM hab hb (5 - 1) (by decide) b1 b2 b3 w.heap.size W0 hz hC0.c1 hC0.c2 hC0.c3 hC.l1 hC.l2 hC.l3) belowK_t (belowK_b hz) (Below.refl _ _) (fun _ => rfl)
    (fun pre W => Loc w W [(gB, 4, #[.bool false]), (gI, 3, #[.int .i64 0]), (gN, 3, #[.int .i64 (t : Int)]), (gL, 28, #[.slice B m d])] [] ∧ ∀ x ∈ pre, a / 64 + x.val ≠ t)
    (fun cc pre W => cc = .ret ∧ ∃ (i : Int) (bo : Bool), Loc w W [(gB, 4, #[.bool bo]), (gI, 3, #[.int .i64 i]), (gN, 3, #[.int .i64 (t : Int)]), (gL, 28, #[.slice B m d])] [] ∧ (bo = true → ∃ j : Nat, i = (j : Int) ∧ fre a b (gt ys (lv M + t)) t = some j) ∧ (bo = false → fre a b (gt ys (lv M + t)) t = none))
    (fun pre X Y row hs hg hr => ⟨loc_own hz hs.1 hg hr, hs.2⟩)
    (fun cc pre X Y row hs hg hr => by
      obtain ⟨h1, i, bo, h2, h3⟩ := hs
      exact ⟨h1, i, bo, loc_own hz h2 hg hr, h3⟩)
    ⟨L, by simp⟩
    (fun x a' W => ∃ gT, Bk W gT 75 (tpv M a b (a / 64 + x.val)) ∧ a' = { tmps := #[.slice B m d, tpsV b1 b2 b3, .int .i64 (t : Int), .pointer (some ⟨gL, 0, none⟩), undef, .pointer (some ⟨gN, 0, none⟩), .pointer (some ⟨gI, 0, none⟩), .pointer (some ⟨gB, 0, none⟩), .pointer (some ⟨gT, 0, none⟩), undef, undef, tpsV b1 b2 b3, .agg (tpv M a b (a / 64 + x.val)), undef, undef, undef, undef, undef, undef, undef, undef, undef, undef, undef, undef, undef, undef, undef, undef, undef, undef, undef, undef, undef, undef, undef, undef], defers := [] })
    (fun x a' _ X Y row hs hg hr => by
      obtain ⟨gT, h1, h2⟩ := hs
      exact ⟨gT, bk_own h1 hg (fun r e => (hr r e).2), h2⟩)
    ?assign ?body ?done ?stop
  case assign =>
    rintro l pre x W K ⟨L1, hp⟩ hK
    dsimp only [tpe, tpv]
    gi_wp2
    exact hK _ _ ((KeepsOthers.alloc _ _).from _) ((Below.refl _ W).alloc L1.K.size _) ⟨L1.other _, hp⟩ ⟨W.heap.size, Bk.new _ _ _, rfl⟩
  case body =>
    rintro l pre x a' W hl hr ⟨L1, hp⟩ ⟨gT, hT, rfl⟩ hlt
    have hin : a / 64 ≤ a / 64 + x.val ∧ a / 64 + x.val < a / 64 + cnt_ a b := by have := x.isLt; omega
    obtain ⟨hf64, ht64⟩ := bfr_le a b (a / 64 + x.val) hin
    have hct := cnt_top.1 hin
    have hl2 := lv_le hM
    have hq64 : a / 64 + x.val < tv M := by unfold tv tq; omega
    have hlf : lft a (a / 64 + x.val) = 64 * (a / 64 + x.val) + bfr a (a / 64 + x.val) := by unfold lft bfr; omega
    have N_0 : W.cell? ⟨gN, 0, none⟩ = some (.int .i64 (t : Nat)) := L1.at_ 2 0 rfl rfl
    have N_z := L1.lt 2 rfl
    have hfre : inT a b (a / 64 + x.val) = true := inT_yes hin
    have hpx : a / 64 + x.val ≠ t → ∀ y ∈ pre ++ [x], a / 64 + y.val ≠ t := fun e y hy => by
      rcases List.mem_append.1 hy with h1 | h1
      · exact hp y h1
      · rw [List.mem_singleton.1 h1]; exact e
    replace hpx := Lib.hid hpx
    clear hct hlt hin
    dsimp only [tpv] at hT
    replace TF := TF (lv M + (a / 64 + x.val)) (bfr a (a / 64 + x.val)) (bto b (a / 64 + x.val)) (by omega) (by omega)
    replace TL := TL (lv M + (a / 64 + x.val)) (by omega)
    have hfr2 : fre a b (gt ys (lv M + (a / 64 + x.val))) (a / 64 + x.val) = (if fb (fl_ (gt ys (lv M + (a / 64 + x.val))) (bfr a (a / 64 + x.val))) (bto b (a / 64 + x.val)) = true then some (64 * (a / 64 + x.val) + fi (fl_ (gt ys (lv M + (a / 64 + x.val))) (bfr a (a / 64 + x.val))) (bto b (a / 64 + x.val))) else none) := by unfold fre; rw [if_pos hfre]
    have hfi := fi_le (fl_ (gt ys (lv M + (a / 64 + x.val))) (bfr a (a / 64 + x.val))) (bto b (a / 64 + x.val))
    clear hfre
    generalize a / 64 + x.val = q at *
    generalize hX : gt ys (lv M + q) = X at TF TL hfr2 hfi
    generalize hcl : lv M + q = cl at *
    generalize fi (fl_ X (bfr a q)) (bto b q) = f at *
    generalize fb (fl_ X (bfr a q)) (bto b q) = bo at *
    generalize lft a q = lf at *
    generalize bfr a q = fr at *
    generalize bto b q = to at *
    have T_0 : W.cell? ⟨gT, 0, none⟩ = some (.int .i64 (q : Nat)) := hT.at_ 0 rfl
    have T_z := hT.lt
    by_cases hqt : q = t
    · subst hqt
      have heq : ((q : Int) == (q : Int)) = true := by simp
      obtain ⟨s1, hs1⟩ : ∃ s1 : Nat, (lf : Int) + (f : Int) = s1 := ⟨lf + f, by omega⟩
      obtain ⟨r1, hr1⟩ : ∃ r1 : Nat, (s1 : Int) - (fr : Int) = r1 := ⟨s1 - fr, by omega⟩
      have hr2 : r1 = 64 * q + f := by omega
      have hbd : s1 ≤ 100000 ∧ q ≤ 64 ∧ lf ≤ 10000 ∧ f ≤ 64 := by omega
      rw [← hr2] at hfr2
      replace hr2 := Lib.hid hr2
      replace hlf := Lib.hid hlf
      replace hcl := Lib.hid hcl
      replace hX := Lib.hid hX
      gi_wp2
      refine wpIn_round_held_drew (S := fun w' => Loc w w' [(gB, 4, #[.bool false]), (gI, 3, #[.int .i64 0]), (gN, 3, #[.int .i64 (q : Int)]), (gL, 28, #[.slice B m d])] [] ∧ Bk w' gT 75 #[.int .i64 (q : Nat), .int .i64 (cl : Nat), .int .i64 (lf : Nat), .int .i64 (fr : Nat), .int .i64 (to : Nat)]) (by kernel_rfl) (by kernel_rfl) (fun ⟨_, _, h⟩ => h) ⟨L1.drew, hT.below (Below.refl _ _).drew⟩ (fun hHeld => ?_)
      have hKO : KeepsOthers W W.drew := KeepsOthers.drew W
      have hBD : Below w.heap.size W W.drew := (Below.refl _ _).drew
      generalize W.drew = V at hHeld hKO hBD ⊢
      refine wpAnyH_take (i := 0) (oi := ⟨some 18, _, _, _, _, _⟩) (v := .slice B m d) rfl (by kernel_rfl) (by kernel_rfl) (by kernel_rfl) (fun _ _ _ h => h) (Or.inl ⟨by rfl, ?_⟩) hHeld ?_
      · intro ww hS
        try dsimp only at hS
        have L_0 := hS.1.at_ 3 0 rfl (v := .slice B m d) rfl
        have L_z := hS.1.lt 3 rfl
        go_simp
        try with_reducible rfl
        try omega
      try simp only [Act.put, List.setIfInBounds_toArray, List.set_cons_zero, List.set_cons_succ]
      refine wpAnyH_take (i := 1) (oi := ⟨some 19, _, _, _, _, _⟩) (v := .pointer (some ⟨gT, 1, none⟩)) rfl (by kernel_rfl) (by kernel_rfl) (by kernel_rfl) (fun _ _ _ h => h) (Or.inl ⟨by rfl, ?_⟩) hHeld ?_
      · intro ww hS
        try dsimp only at hS
        go_simp
        try with_reducible rfl
        try omega
      try simp only [Act.put, List.setIfInBounds_toArray, List.set_cons_zero, List.set_cons_succ]
      refine wpAnyH_take (i := 2) (oi := ⟨some 20, _, _, _, _, _⟩) (v := .int .i64 (cl : Nat)) rfl (by kernel_rfl) (by kernel_rfl) (by kernel_rfl) (fun _ _ _ h => h) (Or.inl ⟨by rfl, ?_⟩) hHeld ?_
      · intro ww hS
        try dsimp only at hS
        have T_1 := hS.2.at_ (v := .int .i64 (cl : Nat)) 1 rfl
        have T_z := hS.2.lt
        go_simp
        try with_reducible rfl
        try omega
      try simp only [Act.put, List.setIfInBounds_toArray, List.set_cons_zero, List.set_cons_succ]
      refine wpAnyH_take (i := 4) (oi := ⟨some 22, _, _, _, _, _⟩) (v := .pointer (some ⟨gT, 3, none⟩)) rfl (by kernel_rfl) (by kernel_rfl) (by kernel_rfl) (fun _ _ _ h => h) (Or.inl ⟨by rfl, ?_⟩) hHeld ?_
      · intro ww hS
        try dsimp only at hS
        go_simp
        try with_reducible rfl
        try omega
      try simp only [Act.put, List.setIfInBounds_toArray, List.set_cons_zero, List.set_cons_succ]
      refine wpAnyH_take (i := 5) (oi := ⟨some 23, _, _, _, _, _⟩) (v := .int .i64 (fr : Nat)) rfl (by kernel_rfl) (by kernel_rfl) (by kernel_rfl) (fun _ _ _ h => h) (Or.inl ⟨by rfl, ?_⟩) hHeld ?_
      · intro ww hS
        try dsimp only at hS
        have T_3 := hS.2.at_ (v := .int .i64 (fr : Nat)) 3 rfl
        have T_z := hS.2.lt
        go_simp
        try with_reducible rfl
        try omega
      try simp only [Act.put, List.setIfInBounds_toArray, List.set_cons_zero, List.set_cons_succ]
      refine wpAnyH_take (i := 6) (oi := ⟨some 24, _, _, _, _, _⟩) (v := .pointer (some ⟨gT, 4, none⟩)) rfl (by kernel_rfl) (by kernel_rfl) (by kernel_rfl) (fun _ _ _ h => h) (Or.inl ⟨by rfl, ?_⟩) hHeld ?_
      · intro ww hS
        try dsimp only at hS
        go_simp
        try with_reducible rfl
        try omega
      try simp only [Act.put, List.setIfInBounds_toArray, List.set_cons_zero, List.set_cons_succ]
      refine wpAnyH_take (i := 7) (oi := ⟨some 25, _, _, _, _, _⟩) (v := .int .i64 (to : Nat)) rfl (by kernel_rfl) (by kernel_rfl) (by kernel_rfl) (fun _ _ _ h => h) (Or.inl ⟨by rfl, ?_⟩) hHeld ?_
      · intro ww hS
        try dsimp only at hS
        have T_4 := hS.2.at_ (v := .int .i64 (to : Nat)) 4 rfl
        have T_z := hS.2.lt
        go_simp
        try with_reducible rfl
        try omega
      try simp only [Act.put, List.setIfInBounds_toArray, List.set_cons_zero, List.set_cons_succ]
      refine wpAnyH_ready (rs := [3]) (by kernel_rfl) (by simp) ?_
      refine AllReadyH.cons (o := ⟨some 21, _, _, _, _, _⟩) rfl (fun K0 hK => ?_) AllReadyH.nil
      go_simp
      refine ((TL _ (hU.below hHeld.1.K)).out).mono ?_
      rintro e _ ⟨rfl, rfl⟩
      refine hK.out _ _ hHeld (fun hHeld' => ?_)
      clear hHeld hK K0
      have hHeld := hHeld'
      clear hHeld'
      try simp only [Act.put, List.setIfInBounds_toArray, List.set_cons_zero, List.set_cons_succ]
      refine wpAnyH_ready (rs := [8]) (by kernel_rfl) (by simp) ?_
      refine AllReadyH.cons (o := ⟨some 26, _, _, _, _, _⟩) rfl (fun K0 hK => ?_) AllReadyH.nil
      go_simp
      refine ((TF _).out).mono ?_
      rintro e _ ⟨rfl, rfl⟩
      refine hK.out _ _ hHeld (fun hHeld' => ?_)
      clear hHeld hK K0
      have hHeld := hHeld'
      clear hHeld'
      try simp only [Act.put, List.setIfInBounds_toArray, List.set_cons_zero, List.set_cons_succ]
      refine wpAnyH_take (i := 9) (oi := ⟨some 17, _, _, _, _, _⟩) (v := ?_) rfl (by kernel_rfl) (by kernel_rfl) (by kernel_rfl) (fun _ _ _ h => h) (Or.inl ⟨by rfl, ?_⟩) hHeld ?_
      rotate_left
      · intro ww hS
        try dsimp only at hS
        go_simp
        try with_reducible rfl
        try omega
      try simp only [Act.put, List.setIfInBounds_toArray, List.set_cons_zero, List.set_cons_succ]
      refine wpAnyH_take (i := 10) (oi := ⟨some 27, _, _, _, _, _⟩) (v := ?_) rfl (by kernel_rfl) (by kernel_rfl) (by kernel_rfl) (fun _ _ _ h => h) (Or.inl ⟨by rfl, ?_⟩) hHeld ?_
      rotate_left
      · intro ww hS
        try dsimp only at hS
        go_simp
        try with_reducible rfl
        try omega
      try simp only [Act.put, List.setIfInBounds_toArray, List.set_cons_zero, List.set_cons_succ]
      refine wpAnyH_take (i := 11) (oi := ⟨some 28, _, _, _, _, _⟩) (v := ?_) rfl (by kernel_rfl) (by kernel_rfl) (by kernel_rfl) (fun _ _ _ h => h) (Or.inl ⟨by rfl, ?_⟩) hHeld ?_
      rotate_left
      · intro ww hS
        try dsimp only at hS
        go_simp
        try with_reducible rfl
        try omega
      try simp only [Act.put, List.setIfInBounds_toArray, List.set_cons_zero, List.set_cons_succ]
      refine wpAnyH_take (i := 12) (oi := ⟨some 9, _, _, _, _, _⟩) (v := ?_) rfl (by kernel_rfl) (by kernel_rfl) (by kernel_rfl) (fun _ _ _ h => h) (Or.inl ⟨by rfl, ?_⟩) hHeld ?_
      rotate_left
      · intro ww hS
        try dsimp only at hS
        go_simp
        try with_reducible rfl
        try omega
      try simp only [Act.put, List.setIfInBounds_toArray, List.set_cons_zero, List.set_cons_succ]
      refine wpAnyH_take (i := 13) (oi := ⟨some 10, _, _, _, _, _⟩) (v := ?_) rfl (by kernel_rfl) (by kernel_rfl) (by kernel_rfl) (fun _ _ _ h => h) (Or.inl ⟨by rfl, ?_⟩) hHeld ?_
      rotate_left
      · intro ww hS
        try dsimp only at hS
        go_simp
        try with_reducible rfl
        try omega
      try simp only [Act.put, List.setIfInBounds_toArray, List.set_cons_zero, List.set_cons_succ]
      refine wpAnyH_done (by kernel_rfl) ?_ _
      have L2 := hHeld.1
      have T_2 := hHeld.2.at_ (v := .int .i64 (lf : Nat)) 2 rfl
      have T_3 := hHeld.2.at_ (v := .int .i64 (fr : Nat)) 3 rfl
      have T_zz := hHeld.2.lt
      have I_0 := L2.at_ 1 0 rfl (v := .int .i64 0) rfl
      have I_f := L2.fz 1 0 rfl
      have I_z := L2.lt 1 rfl
      have B_0 := L2.at_ 0 0 rfl (v := .bool false) rfl
      have B_f := L2.fz 0 0 rfl
      have B_z := L2.lt 0 rfl
      have ne_B_I := L2.ne_ 0 1 rfl rfl (by decide)
      replace hfr2 := Lib.hid hfr2
      gi_wp2
      have L3 := (L2.set 1 0 rfl (.int .i64 (r1 : Nat))).set 0 0 rfl (.bool bo)
      try dsimp only [nput] at L3
      refine ⟨(hKO.trans ((KeepsOthers.setCell _ _ _).trans (KeepsOthers.setCell _ _ _))).from _, rfl, r1, bo, L3, fun e => ⟨r1, rfl, ?_⟩, fun e => ?_⟩
      · rw [hcl.out, hX.out, hfr2.out, if_pos e]
      · rw [hcl.out, hX.out, hfr2.out, e]; rfl
    · have hne : ((q : Int) == (t : Int)) = false := by simp; omega
      gi_wp2
      exact ⟨KeepsFrom.refl _ _, Below.refl _ _, L1, hpx.out hqt⟩
  case done =>
    rintro D zs W hD ⟨hpre, hlen⟩ ⟨L1, hp⟩ hK
    clear TF TL
    have hno : fre a b (gt ys (lv M + t)) t = none := by
      unfold fre
      rw [inT_no]
      · rfl
      · intro hin
        have hj : t - a / 64 < zs.length := by omega
        have h1 := hp zs[t - a / 64] (List.getElem_mem hj)
        have e : (zs[t - a / 64]).val = t - a / 64 := by
          have e2 : (zs.map (·.val))[t - a / 64]? = some (t - a / 64) := by rw [show zs.map (·.val) = _ from hpre]; simp [hj]
          simpa [hj] using e2
        omega
    replace hno := Lib.hid hno
    have I_0 := L1.at_ 1 0 rfl (v := .int .i64 0) rfl
    have I_f := L1.fz 1 0 rfl
    have I_z := L1.lt 1 rfl
    have B_0 := L1.at_ 0 0 rfl (v := .bool false) rfl
    have B_f := L1.fz 0 0 rfl
    have B_z := L1.lt 0 rfl
    have ne_B_I := L1.ne_ 0 1 rfl rfl (by decide)
    gi_wp2
    have L2 := (L1.set 1 0 rfl (.int .i64 0)).set 0 0 rfl (.bool false)
    try dsimp only [nput] at L2
    have hK2 := ((KeepsOthers.setCell W ⟨gI, 0, none⟩ (.int .i64 0)).trans (KeepsOthers.setCell _ ⟨gB, 0, none⟩ (.bool false))).same D _ hK rfl
    refine ⟨by simp, .inl ⟨_, _, rfl, run_takeDeferred hK2, ?_⟩⟩
    have L3 := loc_put L2 (o' := .deferred none) (Nat.le_trans hz hD) hK2 rfl
    have c1 := L3.at_ 1 0 rfl (v := .int .i64 0) rfl
    have c2 := L3.at_ 0 0 rfl (v := .bool false) rfl
    refine ⟨.tuple #[.int .i64 0, .bool false], ?_, 0, false, rfl, (fun e => by cases e), (fun _ => hno.out), L3.K⟩
    simp [results, Try.f31, go_sem, c1, c2]
  case stop =>
    rintro D cc pre W hD hpre ⟨rfl, i, bo, L1, h3⟩ hK
    gi_wp2
    refine ⟨by simp, .inl ⟨_, _, rfl, run_takeDeferred hK, ?_⟩⟩
    have L3 := loc_put L1 (o' := .deferred none) (Nat.le_trans hz hD) hK rfl
    have c1 := L3.at_ 1 0 rfl (v := .int .i64 i) rfl
    have c2 := L3.at_ 0 0 rfl (v := .bool bo) rfl
    refine ⟨.tuple #[.int .i64 i, .bool bo], ?_, i, bo, rfl, h3.1, h3.2, L3.K⟩
    simp [results, Try.f31, go_sem, c1, c2]
end
end Go.Proofs.Ytlaejiephpmniaa
