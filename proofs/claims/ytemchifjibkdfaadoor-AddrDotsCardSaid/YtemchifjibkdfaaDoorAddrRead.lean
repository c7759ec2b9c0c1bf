/-
  What addr's reading of a text answers: numbersOf, Parse. Conditions: texts of at most 1000 bytes.
-/
import Derived.Test.YtemchifjibkdfaaDoorAddrCalls
import Derived.WalkMore
namespace Go.Proofs.YtemchifjibkdfaaDoor
open Go.RowKit
def F4 (w : World) (g : Nat) (x : Nat → Nat) : Prop := w.heap[g]? = some (.cells #[.int .u8 (x 0 : Nat), .int .u8 (x 1 : Nat), .int .u8 (x 2 : Nat), .int .u8 (x 3 : Nat)] 50 (0, 0))
section
variable {w w' : World} {g : Nat} {x : Nat → Nat}
theorem F4.lt (h : F4 w g x) : g < w.heap.size := lt_of_block h
theorem F4.c (h : F4 w g x) {k : Nat} (hk : k < 4) : w.cell? ⟨g, k, none⟩ = some (.int .u8 (x k : Nat)) := by
  unfold F4 at h
  match k, hk with
  | 0, _ => simp [World.cell?, h]
  | 1, _ => simp [World.cell?, h]
  | 2, _ => simp [World.cell?, h]
  | 3, _ => simp [World.cell?, h]
theorem F4.fz (h : F4 w g x) (i : Nat) : w.frozen? ⟨g, i, none⟩ = false := by
  unfold F4 at h
  simp [World.frozen?, h]
theorem F4.below (h : F4 w g x) (K : Below w.heap.size w w') : F4 w' g x := (K.block g h.lt).trans h
theorem F4.set (h : F4 w g x) {k : Nat} (hk : k < 4) (n : Nat) : F4 (w.setCell ⟨g, k, none⟩ (.int .u8 (n : Nat))) g (fun j => if j = k then n else x j) := by
  unfold F4 at h ⊢
  match k, hk with
  | 0, _ => simp [World.setCell, Array.getElem?_modify, h]
  | 1, _ => simp [World.setCell, Array.getElem?_modify, h]
  | 2, _ => simp [World.setCell, Array.getElem?_modify, h]
  | 3, _ => simp [World.setCell, Array.getElem?_modify, h]
end
def pf (x : Nat → Nat) (k : Nat) (r : List Nat) : List Nat := (List.range k).map x ++ r
theorem pf_succ (x : Nat → Nat) (k n : Nat) (r : List Nat) : pf x k (n :: r) = pf (fun j => if j = k then n else x j) (k + 1) r := by
  unfold pf
  rw [List.range_succ, List.map_append, List.append_assoc]
  have : (List.range k).map (fun j => if j = k then n else x j) = (List.range k).map x := by
    apply List.map_congr_left
    intro j hj
    have : j < k := List.mem_range.1 hj
    rw [if_neg (by omega)]
  rw [this]
  simp
theorem str_idx (l : List UInt8) (j : Nat) (h : j < l.length) (w : World) : (Instr.index 9 (S l) (.int .i64 j)).run Tryd.prog w = .ok (.int .u8 (l[j].toNat : Nat)) w := by
  rw [run_index_string _ _ _ _ _ Tryd.underlying9]
  have hs := size_mk l
  rw [dif_pos ⟨by omega, by omega⟩]
  rfl
def cells0 : Nat → Nat := fun _ => 0
theorem dg_int (c : UInt8) : ((c.toNat : Int) - 48) % 256 = (dg c : Nat) := by
  unfold dg
  rw [UInt8.toNat_sub]
  have := c.toNat_lt
  simp only [UInt8.toNat_ofNat]
  omega
theorem read_break {l l' D s' : List UInt8} {m m' : Bool} {k : Nat} {x : Nat → Nat} (h4 : k < 4) (HR : readN 4 l true = (readN (4 - k) l' m).map (pf x k)) (hc : cut1 46 l' = (D, s', m')) (hn : num1 D = none) : readN 4 l true = none := by
  obtain ⟨j, hj⟩ : ∃ j, 4 - k = j + 1 := ⟨3 - k, by omega⟩
  rw [HR, hj, readN, hc]
  simp [hn]
theorem read_on {l l' D s' : List UInt8} {m m' : Bool} {k n : Nat} {x : Nat → Nat} (h4 : k < 4) (HR : readN 4 l true = (readN (4 - k) l' m).map (pf x k)) (hc : cut1 46 l' = (D, s', m')) (hn : num1 D = some n) :
    readN 4 l true = (readN (4 - (k + 1)) s' m').map (pf (fun j => if j = k then n else x j) (k + 1)) := by
  obtain ⟨j, hj⟩ : ∃ j, 4 - k = j + 1 := ⟨3 - k, by omega⟩
  have hj' : 4 - (k + 1) = j := by omega
  rw [HR, hj, readN, hc, hj']
  simp only [hn, Option.map_map]
  congr 1
  funext r
  exact pf_succ x k n r
set_option maxRecDepth 100000 in
set_option maxHeartbeats 1000000 in
theorem numbers_any (l : List UInt8) (hl : l.length ≤ 1000) (w : World) :
    Calls Tryd.prog 22 #[S l] w fun e w' => ∃ x : Nat → Nat, e = .returned (.tuple #[.agg #[.int .u8 (x 0 : Nat), .int .u8 (x 1 : Nat), .int .u8 (x 2 : Nat), .int .u8 (x 3 : Nat)], .bool (readN 4 l true).isSome]) ∧ (∀ r, readN 4 l true = some r → r = pf x 4 []) ∧ Below w.heap.size w w' := by
  go_enter Tryd.func22, Tryd.ntmps22
  go_wp2
  go_step3
  go_wp2
  go_step3
  go_wp2
  go_loopw [0, 5, 6, 12] (fun s0 s5 s6 s12 wr => ∃ (k : Nat) (x : Nat → Nat) (l' : List UInt8) (m : Bool), k ≤ 4 ∧ s0 = S l' ∧ s5 = .int .i64 k ∧ s6 = .bool m ∧ s12 = .int .i64 k ∧ l'.length ≤ 1000 ∧ Hid (readN 4 l true = (readN (4 - k) l' m).map (pf x k)) ∧ Hid (F4 wr (w.heap.size + 1) x) ∧ Hid (F4 wr w.heap.size cells0) ∧ Below w.heap.size w wr) (fun _ _ _ s12 _ => 4 - (intOf s12).toNat)
  case atStart =>
    refine ⟨0, cells0, l, true, by omega, rfl, rfl, rfl, rfl, hl, ?_, ?_, ?_, Below.then_ (below_alloc w _) (below_alloc _ _)⟩
    · change readN 4 l true = (readN 4 l true).map (pf cells0 0)
      have : pf cells0 0 = id := by funext r; simp [pf]
      rw [this, Option.map_id]; rfl
    · have := heap_alloc_new (w.alloc (.cells #[.int .u8 0, .int .u8 0, .int .u8 0, .int .u8 0] 50)) (.cells #[.int .u8 0, .int .u8 0, .int .u8 0, .int .u8 0] 50)
      rw [World.size_alloc] at this
      exact this
    · refine F4.below (w := w.alloc _) ?_ (below_alloc _ _)
      exact heap_alloc_new w _
  case round =>
    obtain ⟨k, x, l', m, hk, rfl, rfl, rfl, rfl, hl', HR, HF, HG, HK⟩ := hrel
    by_cases h4 : k < 4
    · obtain ⟨D, s', m', hcut⟩ : ∃ D s' m', cut1 46 l' = (D, s', m') := ⟨_, _, _, rfl⟩
      have hlen := cut1_len 46 l'
      have T := Lib.hid (cut_any l' 46 hl' wr)
      rw [hcut] at T hlen
      simp only at T hlen
      go_wp2_with fail
      refine (T.out).mono ?_
      rintro e w2 ⟨rfl, K2⟩
      replace HF := Lib.hid (HF.out.below K2)
      replace HG := Lib.hid (HG.out.below K2)
      replace HK := Below.then_ HK K2
      have HC := Lib.hid hcut
      clear hcut T K2
      have c0 := HF.out.c (k := 0) (by omega)
      have c1 := HF.out.c (k := 1) (by omega)
      have c2 := HF.out.c (k := 2) (by omega)
      have c3 := HF.out.c (k := 3) (by omega)
      have g0 := HG.out.c (k := 0) (by omega)
      have g1 := HG.out.c (k := 1) (by omega)
      have g2 := HG.out.c (k := 2) (by omega)
      have g3 := HG.out.c (k := 3) (by omega)
      have f0 := HG.out.fz 0
      have f1 := HG.out.fz 1
      have f2 := HG.out.fz 2
      have f3 := HG.out.fz 3
      have e4 : ((k : Int) == 4) = false := by simp; omega
      rcases D with _ | ⟨c, D'⟩
      · have hN := read_break h4 HR.out HC.out rfl
        go_wp2
        rw [Exit.noGoto_ret]
        refine bodyPost_ret (v := .tuple #[.agg #[.int .u8 (x 0 : Nat), .int .u8 (x 1 : Nat), .int .u8 (x 2 : Nat), .int .u8 (x 3 : Nat)], .bool false]) (by simp [results, Tryd.results22, go_sem, g0, g1, g2, g3]) rfl ⟨x, by rw [hN]; rfl, fun r hr => (by rw [hN] at hr; cases hr), (((HK.setCell (Nat.le_refl _) _).setCell (Nat.le_refl _) _).setCell (Nat.le_refl _) _).setCell (Nat.le_refl _) _⟩
      · have i0 := str_idx (c :: D') 0 (by simp)
        rw [List.getElem_cons_zero] at i0
        by_cases hz : c = 48 ∧ D' ≠ []
        · have hN := read_break h4 HR.out HC.out (by simp only [num1]; rw [if_pos hz])
          obtain ⟨rfl, hne⟩ := hz
          have hpos : 0 < D'.length := List.length_pos_iff.2 hne
          go_wp2
          rw [Exit.noGoto_ret]
          refine bodyPost_ret (v := .tuple #[.agg #[.int .u8 (x 0 : Nat), .int .u8 (x 1 : Nat), .int .u8 (x 2 : Nat), .int .u8 (x 3 : Nat)], .bool false]) (by simp [results, Tryd.results22, go_sem, g0, g1, g2, g3]) rfl ⟨x, by rw [hN]; rfl, fun r hr => (by rw [hN] at hr; cases hr), (((HK.setCell (Nat.le_refl _) _).setCell (Nat.le_refl _) _).setCell (Nat.le_refl _) _).setCell (Nat.le_refl _) _⟩
        · have hnum : num1 (c :: D') = val 0 (c :: D') := by simp only [num1]; rw [if_neg hz]
          by_cases c48 : c = 48
          · obtain rfl : D' = [] := Classical.byContradiction fun e => hz ⟨c48, e⟩
            subst c48
            have hnum' : num1 [48] = some 0 := by decide
            have hck := HF.out.c h4
            have hfk := HF.out.fz k
            clear i0 hnum hz
            go_wp2
            refine wp_loop_rounds 2 ?_
            rw [rounds_succ]
            go_wp2
            rw [rounds_succ]
            go_wp2
            go_roundw
            case rel => exact ⟨k + 1, fun j => if j = k then 0 else x j, s', m', by omega, rfl, by go_num, rfl, by go_num, by omega, read_on h4 HR.out HC.out hnum', HF.out.set h4 0, (Below.heap_setCell w2 ⟨w.heap.size + 1, k, none⟩ _ _ (by simp)).trans HG.out, HK.setCell (by simp) _⟩
            case measure => simp [intOf]; omega
          · have n48 : ((c.toNat : Int) == 48) = false := by
              have : c.toNat ≠ 48 := fun e => c48 (UInt8.toNat_inj.1 e)
              simp; omega
            have z0 : ∀ h, ((⟨(c :: D').toArray⟩ : ByteArray)[0]'h).toNat = c.toNat := fun _ => rfl
            go_wp2
            clear z0 n48 i0
            go_loop [9, 35] (fun n i => ∃ j acc : Nat, j ≤ D'.length + 1 ∧ i = .int .i64 j ∧ n = .int .i64 acc ∧ acc ≤ 255 ∧ Hid (num1 (c :: D') = val acc ((c :: D').drop j))) (fun _ i => D'.length + 1 - (intOf i).toNat)
            case atStart => exact ⟨0, 0, Nat.zero_le _, rfl, rfl, by omega, hnum⟩
            case round =>
              obtain ⟨j, acc, hj, rfl, rfl, hacc, HV⟩ := hrel
              by_cases hlt : j < D'.length + 1
              · have hlt' : j < (c :: D').length := by simpa using hlt
                have HE : Hid ((c :: D').drop j = (c :: D')[j] :: (c :: D').drop (j + 1)) := List.drop_eq_getElem_cons hlt'
                obtain ⟨q, hq⟩ : ∃ q, q = (c :: D')[j] := ⟨_, rfl⟩
                rw [← hq] at HE
                have zj : ∀ h, ((⟨(c :: D').toArray⟩ : ByteArray)[j]'h).toNat = q.toNat := fun _ => by rw [hq]; rfl
                clear hq
                have hd := dg_int q
                have hd9 : dg q < 256 := (q - 48).toNat_lt
                obtain ⟨t, ht⟩ : ∃ t, t = dg q := ⟨_, rfl⟩
                have Ht := Lib.hid ht
                rw [← ht] at hd hd9
                clear ht
                by_cases hbad : 9 < t ∨ 255 < acc * 10 + t
                · have hN := read_break h4 HR.out HC.out (by rw [HV.out, HE.out, val, ← Ht.out, if_pos hbad])
                  by_cases h9 : 9 < t
                  · have e9 : decide ((9 : Int) < (t : Int)) = true := by simp; omega
                    clear hbad h9
                    go_wp2
                    refine bodyPost_ret (v := .tuple #[.agg #[.int .u8 (x 0 : Nat), .int .u8 (x 1 : Nat), .int .u8 (x 2 : Nat), .int .u8 (x 3 : Nat)], .bool false]) (by simp [results, Tryd.results22, go_sem, g0, g1, g2, g3]) rfl ⟨x, by rw [hN]; rfl, fun r hr => (by rw [hN] at hr; cases hr), (((HK.setCell (Nat.le_refl _) _).setCell (Nat.le_refl _) _).setCell (Nat.le_refl _) _).setCell (Nat.le_refl _) _⟩
                  · have e9 : decide ((9 : Int) < (t : Int)) = false := by simp; omega
                    have e5 : decide ((255 : Int) < (acc : Int) * 10 + (t : Int)) = true := by simp; omega
                    clear hbad h9
                    go_wp2
                    refine bodyPost_ret (v := .tuple #[.agg #[.int .u8 (x 0 : Nat), .int .u8 (x 1 : Nat), .int .u8 (x 2 : Nat), .int .u8 (x 3 : Nat)], .bool false]) (by simp [results, Tryd.results22, go_sem, g0, g1, g2, g3]) rfl ⟨x, by rw [hN]; rfl, fun r hr => (by rw [hN] at hr; cases hr), (((HK.setCell (Nat.le_refl _) _).setCell (Nat.le_refl _) _).setCell (Nat.le_refl _) _).setCell (Nat.le_refl _) _⟩
                · have e9 : decide ((9 : Int) < (t : Int)) = false := by simp; omega
                  have e5 : decide ((255 : Int) < (acc : Int) * 10 + (t : Int)) = false := by simp; omega
                  go_wp2
                  go_round
                  case rel => exact ⟨j + 1, acc * 10 + t, by omega, by go_num, by go_num, by omega, by rw [HV.out, HE.out, val, ← Ht.out, if_neg hbad]; rfl⟩
                  case measure => simp [intOf]; omega
              · have hnum' : num1 (c :: D') = some acc := by
                  rw [HV.out, List.drop_eq_nil_of_le (by simp; omega)]
                  rfl
                have hck := HF.out.c h4
                have hfk := HF.out.fz k
                go_wp2
                go_roundw
                case rel => exact ⟨k + 1, fun j => if j = k then acc else x j, s', m', by omega, rfl, by go_num, rfl, by go_num, by omega, read_on h4 HR.out HC.out hnum', HF.out.set h4 acc, (Below.heap_setCell w2 ⟨w.heap.size + 1, k, none⟩ _ _ (by simp)).trans HG.out, HK.setCell (by simp) _⟩
                case measure => simp [intOf]; omega
    · obtain rfl : k = 4 := by omega
      have HR' : readN 4 l true = (readN 0 l' m).map (pf x 4) := HR.out
      rw [readN] at HR'
      have HN := Lib.hid HR'
      clear HR'
      have F := HF.out
      have G := HG.out
      have c0 := F.c (k := 0) (by omega)
      have c1 := F.c (k := 1) (by omega)
      have c2 := F.c (k := 2) (by omega)
      have c3 := F.c (k := 3) (by omega)
      have g0 := G.c (k := 0) (by omega)
      have g1 := G.c (k := 1) (by omega)
      have g2 := G.c (k := 2) (by omega)
      have g3 := G.c (k := 3) (by omega)
      have f0 := G.fz 0
      have f1 := G.fz 1
      have f2 := G.fz 2
      have f3 := G.fz 3
      clear F G
      go_wp2
      rw [Exit.noGoto_ret]
      have hN := HN.out
      cases m
      · refine bodyPost_ret (v := .tuple #[.agg #[.int .u8 (x 0 : Nat), .int .u8 (x 1 : Nat), .int .u8 (x 2 : Nat), .int .u8 (x 3 : Nat)], .bool true]) (by simp [results, Tryd.results22, go_sem, g0, g1, g2, g3]) rfl ⟨x, by rw [hN]; rfl, fun r hr => (by rw [hN] at hr; simp at hr; exact hr.symm), (((HK.setCell (Nat.le_refl _) _).setCell (Nat.le_refl _) _).setCell (Nat.le_refl _) _).setCell (Nat.le_refl _) _⟩
      · refine bodyPost_ret (v := .tuple #[.agg #[.int .u8 (x 0 : Nat), .int .u8 (x 1 : Nat), .int .u8 (x 2 : Nat), .int .u8 (x 3 : Nat)], .bool false]) (by simp [results, Tryd.results22, go_sem, g0, g1, g2, g3]) rfl ⟨x, by rw [hN]; rfl, fun r hr => (by rw [hN] at hr; simp at hr), (((HK.setCell (Nat.le_refl _) _).setCell (Nat.le_refl _) _).setCell (Nat.le_refl _) _).setCell (Nat.le_refl _) _⟩
end Go.Proofs.YtemchifjibkdfaaDoor
