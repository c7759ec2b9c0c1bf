/-
  The names of a request gone through, with those that were met kept in a map: the error of the first one that has one; nothing that was there is otherwise.
-/
import Derived.Test.YtmakbmmnjbnfiaaDoorAskNames
namespace Go.Proofs.YtmakbmmnjbnfiaaDoor
open Go.RowKit
theorem wf_of_u32 {y : Nat} (h : y < 4294967296) : (Lit.int .u32 (y : Int)).wf = true := by
  simp [Lit.wf, IntKind.min, IntKind.max, IntKind.bits, IntKind.signed]; omega
theorem key_law : Maps.Keyed Tryd.prog 22 := Maps.int_keyed Tryd.underlying22
theorem zero_bool (w : World) : (zeroValue 4).run Tryd.prog w = .ok (.bool false) w := by kernel_rfl
theorem own_map_below {w w' : World} {b n : Nat} {D : DataW Unit} (h : w.ownsMap Tryd.prog 22 (plainElem Tryd.prog 4) b n D) (K : Below w.heap.size w w') : w'.ownsMap Tryd.prog 22 (plainElem Tryd.prog 4) b n D := by
  have hlt := h.lt
  obtain ⟨es, clock, hb, r⟩ := h
  exact ⟨es, clock, (K.block b hlt).trans hb, r⟩
section
variable {w : World} {lo lo2 a M m d : Nat} {p sh wo qu tr : Int} {A B : Option Addr} {n c : Nat} {zs ys : List Int}
set_option maxRecDepth 100000 in
set_option maxHeartbeats 2000000 in
theorem each_any (ha : a < 4294967296) (hM : Much a p M) (h : IS .i64 lo w A n c zs) (hn : n ≤ 65536) (hs : IS .u32 lo2 w B m d ys) (hm : m ≤ 60000) (hw : W32 ys) :
    Calls Tryd.prog 47 #[.agg #[.int .u32 a, .int .i64 p, .slice A n c, .int .i64 sh, .int .i64 wo, .int .i64 qu, .int .i64 tr], .slice B m d] w fun e w' => e = .returned (.int .i64 (chk a M zs [] ys)) ∧ Below w.heap.size w w' := by
  have K := below_alloc w (.cells #[.int .u32 a, .int .i64 p, .slice A n c, .int .i64 sh, .int .i64 wo, .int .i64 qu, .int .i64 tr] 27)
  have H := Bk.new w #[.int .u32 a, .int .i64 p, .slice A n c, .int .i64 sh, .int .i64 wo, .int .i64 qu, .int .i64 tr] 27
  replace h := h.below K
  replace hs := hs.below K
  have hl := Lib.hid hs.len
  have hmm := @run_makeMap Tryd.prog
  go_enter Tryd.func47, Tryd.ntmps47
  go_upto_region 1 with (fail)
  generalize w.alloc (.cells #[.int .u32 a, .int .i64 p, .slice A n c, .int .i64 sh, .int .i64 wo, .int .i64 qu, .int .i64 tr] 27) = w1 at H K h hs ⊢
  generalize w.heap.size = g at H ⊢
  go_wp2
  have O := World.ownsMap_made w1 Tryd.prog 22 (plainElem (H := Unit) Tryd.prog 4)
  have K1 := below_alloc w1 (.map #[] 0)
  generalize w1.alloc (.map #[] 0) = w2 at O K1 ⊢
  obtain ⟨gm, hgm⟩ : ∃ gm, gm = w1.heap.size := ⟨_, rfl⟩
  rw [← hgm] at O ⊢
  have hgb : w1.heap.size ≤ gm := by omega
  clear hgm
  go_loopw [13] (fun i wr => ∃ k : Nat, k ≤ m ∧ i = .int .i64 k ∧ Below w1.heap.size w1 wr ∧ wr.ownsMap Tryd.prog 22 (plainElem Tryd.prog 4) gm k (bm (ys.take k).reverse) ∧ Hid (Left_ a M zs ys k)) (fun i _ => m - (intOf i).toNat)
  case atStart => exact ⟨0, Nat.zero_le _, rfl, K1, O, Lib.hid (Left_.start _ _ _ _)⟩
  clear O K1
  case round =>
    obtain ⟨k, hk, rfl, Kr, O, L⟩ := hrel
    by_cases hlt : k < m
    · replace H := H.below Kr
      replace h := h.below Kr
      obtain ⟨y, hy, hyb⟩ := hw.at_ (k := k) (by have := hl.out; omega)
      obtain ⟨b, o, rfl, _, hc⟩ := (hs.below Kr).get hlt
      rw [hy] at hc
      have H_0 := H.at_ (v := .int .u32 a) 0 rfl
      have H_1 := H.at_ (v := .int .i64 p) 1 rfl
      have H_2 := H.at_ (v := .slice A n c) 2 rfl
      have H_3 := H.at_ (v := .int .i64 sh) 3 rfl
      have H_4 := H.at_ (v := .int .i64 wo) 4 rfl
      have H_5 := H.at_ (v := .int .i64 qu) 5 rfl
      have H_6 := H.at_ (v := .int .i64 tr) 6 rfl
      have H_z := H.lt
      have T := Lib.hid (find_any (p := p) (A := A) (n := n) (c := c) (sh := sh) (wo := wo) (qu := qu) (tr := tr) y hyb ha hM h hn)
      have hkl : k < ys.length := by have := hl.out; omega
      replace hkl := Lib.hid hkl
      have hfE : fiE a M (gi ys k).toNat zs = fiE a M y zs := by rw [hy]; rfl
      generalize fiE a M y zs = E at T hfE
      generalize fiO a M y zs = F at T
      replace hfE := Lib.hid hfE
      replace hy := Lib.hid hy
      by_cases hE : E = 0
      · subst hE
        have hkey : keyOf Tryd.prog 22 (.int .u32 (y : Int)) = some (.int .u32 (y : Int)) := Maps.keyOf_int_mk Tryd.underlying22 (wf_of_u32 hyb)
        go_wp2_with fail
        refine T.out.mono ?_
        rintro e w3 ⟨rfl, K'⟩
        clear H_0 H_1 H_2 H_3 H_4 H_5 H_6 H_z T
        replace O := own_map_below O K'
        have Ka := Kr.trans (K'.mono Kr.size)
        have hat := bm_at (key_law.key hkey) (ys.take k).reverse
        by_cases hin : (y : Int) ∈ (ys.take k).reverse
        · rw [decide_eq_true hin] at hat
          go_wp2_with (first | (at_lookup; refine wpList_lookup_own_bool _ rfl _ _ 74 rfl 22 4 key_law Tryd.underlying74 Tryd.underlying4 (zero_bool _) gm k _ rfl O _ _ rfl hkey _ hat ?_))
          go_ret
          refine ⟨ret_int ?_, Below.then_ K Ka⟩
          obtain ⟨j, hj, e⟩ := (mem_take_rev (by have := hkl.out; omega)).1 hin
          exact (L.out.twice hkl.out hfE.out hj (e.trans hy.out.symm)).symm
        · rw [decide_eq_false hin] at hat
          replace hin := Lib.hid hin
          go_wp2_with (first | (at_lookup; refine wpList_lookup_own_bool _ rfl _ _ 74 rfl 22 4 key_law Tryd.underlying74 Tryd.underlying4 (zero_bool _) gm k _ rfl O _ _ rfl hkey _ hat ?_) | (at_mapUpdate; refine wpList_mapUpdate_own _ rfl _ _ _ 74 rfl 22 4 key_law Tryd.underlying74 _ gm k _ rfl O (by unfold maxLen; omega) _ _ _ rfl rfl hkey _ [] (plainElem_bool Tryd.underlying4 true) ?_; intro w4 O4 G4))
          go_roundw
          case rel =>
            refine ⟨k + 1, by omega, by go_num, ?_, ?_, Lib.hid ?_⟩
            · exact Ka.grown G4 (Nat.le_trans (Nat.le_refl _) Ka.size) (by intro j hj; cases hj; exact hgb)
            · rw [take_rev hkl.out, hy.out]; exact O4
            · exact L.out.step hkl.out hfE.out (fun j hj e => hin.out ((mem_take_rev (by have := hkl.out; omega)).2 ⟨j, hj, e.trans hy.out⟩))
          case measure => simp [intOf]; omega
      · have e1 : (E != 0) = true := by simp [hE]
        replace hE := Lib.hid hE
        go_wp2_with fail
        refine T.out.mono ?_
        rintro e w3 ⟨rfl, K'⟩
        go_wp2
        go_ret
        exact ⟨ret_int (L.out.bad hkl.out hfE.out hE.out).symm, Below.then_ K (Kr.trans (K'.mono Kr.size))⟩
    · go_wp2
      go_ret
      exact ⟨ret_int (L.out.end_ (by have := hl.out; omega)).symm, Below.then_ K Kr⟩
end
end Go.Proofs.YtmakbmmnjbnfiaaDoor

