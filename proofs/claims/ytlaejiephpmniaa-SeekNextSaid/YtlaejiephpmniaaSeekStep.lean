/-
  What seek.Step answers of an operation that seeks. Conditions: a block that may be, as many cells as there are, a shard that there is.
-/
import Derived.Test.YtlaejiephpmniaaSeekFree
namespace Go.Proofs.Ytlaejiephpmniaa
open Go.RowKit
set_option linter.unusedVariables false
def tF (b1 b2 b3 n a b : Nat) : Fct := ⟨fun w => Clo w b1 b2 b3 n a b, fun g => g = b1 ∨ g = b2 ∨ g = b3⟩
theorem cell_same {w w' : World} {b o : Nat} {v : Value} (h : w'.heap[b]? = w.heap[b]?) (e : w.cell? ⟨b, o, none⟩ = some v) : w'.cell? ⟨b, o, none⟩ = some v := by
  unfold World.cell? at e ⊢
  rw [h]; exact e
theorem tF_ok (b1 b2 b3 n a b : Nat) : (tF b1 b2 b3 n a b).Ok :=
  ⟨fun w w' h hs hk => ⟨cell_same (hk b1 h.l1 (.inl rfl)) h.c1, cell_same (hk b2 h.l2 (.inr (.inl rfl))) h.c2, cell_same (hk b3 h.l3 (.inr (.inr rfl))) h.c3, Nat.lt_of_lt_of_le h.l1 hs, Nat.lt_of_lt_of_le h.l2 hs, Nat.lt_of_lt_of_le h.l3 hs⟩,
   fun w b h hf => hf.elim (fun e => e ▸ h.l1) (fun hf => hf.elim (fun e => e ▸ h.l2) (fun e => e ▸ h.l3))⟩
def RetTops (n a b : Nat) (w : World) (e : Ending) (w' : World) : Prop := ∃ b1 b2 b3, e = .returned (tpsV b1 b2 b3) ∧ Clo w' b1 b2 b3 n a b ∧ (w.heap.size ≤ b1 ∧ w.heap.size ≤ b2 ∧ w.heap.size ≤ b3) ∧ Below w.heap.size w w'
theorem Loc.tops {w0 w : World} {bs : List Bl} {fs : List Fct} {b1 b2 b3 n a b lo : Nat} (L : Loc w0 w bs fs) (hl : ∀ i x, nth bs i = some x → x.1 < lo) (hC : Clo w b1 b2 b3 n a b) (hb : lo ≤ b1 ∧ lo ≤ b2 ∧ lo ≤ b3) : Loc w0 w bs (tF b1 b2 b3 n a b :: fs) :=
  L.add _ hC (tF_ok _ _ _ _ _ _) fun i x e hf => by
    have := hl i x e
    rcases hf with h | h | h <;> omega
set_option maxHeartbeats 1000000 in
theorem topsf_any (n a b : Nat) (w : World) : Calls Try.prog 42 #[.int .i64 (n : Int), .int .i64 (a : Int), .int .i64 (b : Int)] w (RetTops n a b w) := by
  go_enter Try.func42, Try.ntmps42
  go_wp2
  have L := Loc.start w
  replace L := (((L).alloc #[.int .i64 (n : Int)] 3).alloc #[.int .i64 (a : Int)] 3).alloc #[.int .i64 (b : Int)] 3
  try simp only [World.size_alloc] at L
  go_ret
  exact ⟨w.heap.size + 1, w.heap.size + 1 + 1, w.heap.size, rfl, ⟨L.at_ 1 0 rfl rfl, L.at_ 0 0 rfl rfl, L.at_ 2 0 rfl rfl, L.lt 1 rfl, L.lt 0 rfl, L.lt 2 rfl⟩, ⟨by omega, by omega, by omega⟩, L.K⟩
section
variable {w : World} {lo a M m d ns hd k tt : Nat} {p wo qu tr : Int} {A B : Option Addr} {n c : Nat} {ys : List Nat} {h : Hd} {s : Sc} {l : Ls}
set_option maxRecDepth 100000 in
set_option maxHeartbeats 2000000 in
theorem sought_any (ha : a < 4294967296) (hM : Much a p M) (h1 : 1 ≤ ns) (h2 : ns ≤ 64) (hsh : s.shard = (hd : Int)) (hhd : hd < ns) (hso : s.sought = (k : Int)) (hk : k < ns) :
    Calls Try.prog 27 #[.agg #[.int .u32 (a : Int), .int .i64 p, .slice A n c, .int .i64 (ns : Int), .int .i64 wo, .int .i64 qu, .int .i64 tr], .agg (opv h s)] w (RetTops M (ct (lv M) ns ((hd + k) % ns)) (ct (lv M) ns ((hd + k) % ns + 1)) w) := by
  have TM := fun w => Lib.hid (many_yes (w := w) ha hM)
  have TFr := fun w => Lib.hid (from_any ns hd k h1 h2 hhd (by omega) w)
  have TR := fun w => Lib.hid (range_any M ns ((hd + k) % ns) hM.most h1 h2 (Nat.mod_lt _ h1) w)
  generalize (ct (lv M) ns ((hd + k) % ns)) = qa at TR ⊢
  generalize (ct (lv M) ns ((hd + k) % ns + 1)) = qb at TR ⊢
  generalize (hd + k) % ns = q at TR TFr
  clear hM ha hhd hk h1 h2
  rcases s with ⟨kind, addr, err, aad, used, phase, shard, sought, leaf, bit, word, full, at_, tries, item, stamp⟩
  rcases h with ⟨A0, n0, c0, A1, n1, c1, A2, n2, c2, A3, n3, c3⟩
  dsimp only at *
  subst hsh hso
  go_enter Try.func27, Try.ntmps27
  go_upto_region 1 with (fail)
  have L := Loc.start w
  replace L := ((L).alloc #[.int .u32 (a : Int), .int .i64 p, .slice A n c, .int .i64 (ns : Int), .int .i64 wo, .int .i64 qu, .int .i64 tr] 27).alloc (opv ⟨A0, n0, c0, A1, n1, c1, A2, n2, c2, A3, n3, c3⟩ ⟨kind, addr, err, aad, used, phase, (hd : Int), (k : Int), leaf, bit, word, full, at_, tries, item, stamp⟩) 41
  try simp only [World.size_alloc] at L
  try dsimp only [nput] at L
  generalize ((w).alloc (.cells #[.int .u32 (a : Int), .int .i64 p, .slice A n c, .int .i64 (ns : Int), .int .i64 wo, .int .i64 qu, .int .i64 tr] 27)).alloc (.cells (opv ⟨A0, n0, c0, A1, n1, c1, A2, n2, c2, A3, n3, c3⟩ ⟨kind, addr, err, aad, used, phase, (hd : Int), (k : Int), leaf, bit, word, full, at_, tries, item, stamp⟩) 41) = w1 at L ⊢
  generalize w.heap.size + 1 = gO at L ⊢
  generalize w.heap.size = gH at L ⊢
  have H_0 := L.at_ 1 0 rfl (v := .int .u32 (a : Int)) rfl
  have H_1 := L.at_ 1 1 rfl (v := .int .i64 p) rfl
  have H_z := L.lt 1 rfl
  go_wp2_with fail
  refine ((TM _).out).mono ?_
  rintro e w2 ⟨rfl, K'⟩
  clear H_0 H_1 H_z
  replace L := L.over K'
  go_upto_region 2 with (fail)
  replace L := L.drew
  refine wp_region_held_drew (S := fun w' => Loc w w' [(gO, 41, opv ⟨A0, n0, c0, A1, n1, c1, A2, n2, c2, A3, n3, c3⟩ ⟨kind, addr, err, aad, used, phase, (hd : Int), (k : Int), leaf, bit, word, full, at_, tries, item, stamp⟩), (gH, 27, #[.int .u32 (a : Int), .int .i64 p, .slice A n c, .int .i64 (ns : Int), .int .i64 wo, .int .i64 qu, .int .i64 tr])] []) (by kernel_rfl) L (fun hHeld => ?_)
  generalize w2.drew = v3 at hHeld L ⊢
  refine wpAnyH_take (i := 0) (oi := ⟨some 12, _, _, _, _, _⟩) (v := .int .i64 (M : Int)) rfl (by kernel_rfl) (by kernel_rfl) (by kernel_rfl) (fun _ _ _ h => h) (Or.inl ⟨by rfl, ?_⟩) hHeld ?_
  · intro ww hS
    try dsimp only at hS
    go_simp
    try with_reducible rfl
    try omega
  try simp only [Act.put, List.setIfInBounds_toArray, List.set_cons_zero, List.set_cons_succ]
  refine wpAnyH_take (i := 1) (oi := ⟨some 13, _, _, _, _, _⟩) (v := .pointer (some ⟨gH, 3, none⟩)) rfl (by kernel_rfl) (by kernel_rfl) (by kernel_rfl) (fun _ _ _ h => h) (Or.inl ⟨by rfl, ?_⟩) hHeld ?_
  · intro ww hS
    try dsimp only at hS
    go_simp
    try with_reducible rfl
    try omega
  try simp only [Act.put, List.setIfInBounds_toArray, List.set_cons_zero, List.set_cons_succ]
  refine wpAnyH_take (i := 2) (oi := ⟨some 14, _, _, _, _, _⟩) (v := .int .i64 (ns : Int)) rfl (by kernel_rfl) (by kernel_rfl) (by kernel_rfl) (fun _ _ _ h => h) (Or.inl ⟨by rfl, ?_⟩) hHeld ?_
  · intro ww hS
    try dsimp only at hS
    have H_3 := (hS).at_ 1 3 rfl (v := .int .i64 (ns : Int)) rfl
    have H_z := (hS).lt 1 rfl
    go_simp
    try with_reducible rfl
    try omega
  try simp only [Act.put, List.setIfInBounds_toArray, List.set_cons_zero, List.set_cons_succ]
  refine wpAnyH_take (i := 3) (oi := ⟨some 15, _, _, _, _, _⟩) (v := .pointer (some ⟨gH, 3, none⟩)) rfl (by kernel_rfl) (by kernel_rfl) (by kernel_rfl) (fun _ _ _ h => h) (Or.inl ⟨by rfl, ?_⟩) hHeld ?_
  · intro ww hS
    try dsimp only at hS
    go_simp
    try with_reducible rfl
    try omega
  try simp only [Act.put, List.setIfInBounds_toArray, List.set_cons_zero, List.set_cons_succ]
  refine wpAnyH_take (i := 4) (oi := ⟨some 16, _, _, _, _, _⟩) (v := .int .i64 (ns : Int)) rfl (by kernel_rfl) (by kernel_rfl) (by kernel_rfl) (fun _ _ _ h => h) (Or.inl ⟨by rfl, ?_⟩) hHeld ?_
  · intro ww hS
    try dsimp only at hS
    have H_3 := (hS).at_ 1 3 rfl (v := .int .i64 (ns : Int)) rfl
    have H_z := (hS).lt 1 rfl
    go_simp
    try with_reducible rfl
    try omega
  try simp only [Act.put, List.setIfInBounds_toArray, List.set_cons_zero, List.set_cons_succ]
  refine wpAnyH_take (i := 5) (oi := ⟨some 17, _, _, _, _, _⟩) (v := .pointer (some ⟨gO, 9, none⟩)) rfl (by kernel_rfl) (by kernel_rfl) (by kernel_rfl) (fun _ _ _ h => h) (Or.inl ⟨by rfl, ?_⟩) hHeld ?_
  · intro ww hS
    try dsimp only at hS
    go_simp
    try with_reducible rfl
    try omega
  try simp only [Act.put, List.setIfInBounds_toArray, List.set_cons_zero, List.set_cons_succ]
  refine wpAnyH_take (i := 6) (oi := ⟨some 18, _, _, _, _, _⟩) (v := .int .i64 (hd : Int)) rfl (by kernel_rfl) (by kernel_rfl) (by kernel_rfl) (fun _ _ _ h => h) (Or.inl ⟨by rfl, ?_⟩) hHeld ?_
  · intro ww hS
    try dsimp only at hS
    have O_9 := (hS).at_ 0 9 rfl (v := .int .i64 (hd : Int)) rfl
    have O_z := (hS).lt 0 rfl
    go_simp
    try with_reducible rfl
    try omega
  try simp only [Act.put, List.setIfInBounds_toArray, List.set_cons_zero, List.set_cons_succ]
  refine wpAnyH_take (i := 7) (oi := ⟨some 19, _, _, _, _, _⟩) (v := .pointer (some ⟨gO, 10, none⟩)) rfl (by kernel_rfl) (by kernel_rfl) (by kernel_rfl) (fun _ _ _ h => h) (Or.inl ⟨by rfl, ?_⟩) hHeld ?_
  · intro ww hS
    try dsimp only at hS
    go_simp
    try with_reducible rfl
    try omega
  try simp only [Act.put, List.setIfInBounds_toArray, List.set_cons_zero, List.set_cons_succ]
  refine wpAnyH_take (i := 8) (oi := ⟨some 20, _, _, _, _, _⟩) (v := .int .i64 (k : Int)) rfl (by kernel_rfl) (by kernel_rfl) (by kernel_rfl) (fun _ _ _ h => h) (Or.inl ⟨by rfl, ?_⟩) hHeld ?_
  · intro ww hS
    try dsimp only at hS
    have O_10 := (hS).at_ 0 10 rfl (v := .int .i64 (k : Int)) rfl
    have O_z := (hS).lt 0 rfl
    go_simp
    try with_reducible rfl
    try omega
  try simp only [Act.put, List.setIfInBounds_toArray, List.set_cons_zero, List.set_cons_succ]
  refine wpAnyH_ready (rs := [9]) (by kernel_rfl) (by simp) ?_
  refine AllReadyH.cons (o := ⟨some 21, _, _, _, _, _⟩) rfl (fun K0 hK => ?_) AllReadyH.nil
  go_simp
  refine ((TFr _).out).mono ?_
  rintro e w' ⟨rfl, rfl⟩
  refine hK.out _ _ L (fun hHeld' => ?_)
  clear hHeld hK K0
  have hHeld := hHeld'
  clear hHeld'
  try simp only [Act.put, List.setIfInBounds_toArray, List.set_cons_zero, List.set_cons_succ]
  refine wpAnyH_ready (rs := [10]) (by kernel_rfl) (by simp) ?_
  refine AllReadyH.cons (o := ⟨some 22, _, _, _, _, _⟩) rfl (fun K0 hK => ?_) AllReadyH.nil
  go_simp
  refine ((TR _).out).mono ?_
  rintro e w4 ⟨rfl, K'⟩
  replace L := L.over K'
  refine hK.out _ _ L (fun hHeld' => ?_)
  clear hHeld hK K0
  have hHeld := hHeld'
  clear hHeld'
  clear K'
  try simp only [Act.put, List.setIfInBounds_toArray, List.set_cons_zero, List.set_cons_succ]
  refine wpAnyH_take (i := 11) (oi := ⟨some 11, _, _, _, _, _⟩) (v := ?_) rfl (by kernel_rfl) (by kernel_rfl) (by kernel_rfl) (fun _ _ _ h => h) (Or.inl ⟨by rfl, ?_⟩) hHeld ?_
  rotate_left
  · intro ww hS
    try dsimp only at hS
    go_simp
    try with_reducible rfl
    try omega
  try simp only [Act.put, List.setIfInBounds_toArray, List.set_cons_zero, List.set_cons_succ]
  refine wpAnyH_take (i := 12) (oi := ⟨some 23, _, _, _, _, _⟩) (v := .int .i64 (qa : Nat)) rfl (by kernel_rfl) (by kernel_rfl) (by kernel_rfl) (fun _ _ _ h => h) (Or.inl ⟨by rfl, ?_⟩) hHeld ?_
  · intro ww hS
    try dsimp only at hS
    go_simp
    try with_reducible rfl
    try omega
  try simp only [Act.put, List.setIfInBounds_toArray, List.set_cons_zero, List.set_cons_succ]
  refine wpAnyH_take (i := 13) (oi := ⟨some 24, _, _, _, _, _⟩) (v := .int .i64 (qb : Nat)) rfl (by kernel_rfl) (by kernel_rfl) (by kernel_rfl) (fun _ _ _ h => h) (Or.inl ⟨by rfl, ?_⟩) hHeld ?_
  · intro ww hS
    try dsimp only at hS
    go_simp
    try with_reducible rfl
    try omega
  try simp only [Act.put, List.setIfInBounds_toArray, List.set_cons_zero, List.set_cons_succ]
  refine wpAnyH_take (i := 14) (oi := ⟨some 6, _, _, _, _, _⟩) (v := .int .i64 (qa : Nat)) rfl (by kernel_rfl) (by kernel_rfl) (by kernel_rfl) (fun _ _ _ h => h) (Or.inl ⟨by rfl, ?_⟩) hHeld ?_
  · intro ww hS
    try dsimp only at hS
    go_simp
    try with_reducible rfl
    try omega
  try simp only [Act.put, List.setIfInBounds_toArray, List.set_cons_zero, List.set_cons_succ]
  refine wpAnyH_take (i := 15) (oi := ⟨some 7, _, _, _, _, _⟩) (v := .int .i64 (qb : Nat)) rfl (by kernel_rfl) (by kernel_rfl) (by kernel_rfl) (fun _ _ _ h => h) (Or.inl ⟨by rfl, ?_⟩) hHeld ?_
  · intro ww hS
    try dsimp only at hS
    go_simp
    try with_reducible rfl
    try omega
  try simp only [Act.put, List.setIfInBounds_toArray, List.set_cons_zero, List.set_cons_succ]
  refine wpAnyH_done (by kernel_rfl) ?_ _
  clear hHeld
  go_wp2_with fail
  have KS := L.K.size
  refine (topsf_any M qa qb _).mono ?_
  rintro e w5 ⟨b1, b2, b3, rfl, hC, hb, K'⟩
  have Lb := L.lts
  replace L := L.over K'
  replace L := L.tops Lb hC hb
  clear Lb
  try dsimp only [lF, List.cons_append, List.nil_append] at L
  clear hC
  go_wp2
  go_ret
  exact ⟨_, _, _, rfl, L.get 0 rfl, ⟨Nat.le_trans KS hb.1, Nat.le_trans KS hb.2.1, Nat.le_trans KS hb.2.2⟩, L.K⟩
set_option maxRecDepth 100000 in
set_option maxHeartbeats 2000000 in
theorem sroot_any (ha : a < 4294967296) (hM : Much a p M) :
    Calls Try.prog 29 #[.agg #[.int .u32 (a : Int), .int .i64 p, .slice A n c, .int .i64 (ns : Int), .int .i64 wo, .int .i64 qu, .int .i64 tr]] w (fun e w' => e = .returned (.int .i64 ((lv M + tv M : Nat))) ∧ Below w.heap.size w w') := by
  have TM := fun w => Lib.hid (many_yes (w := w) ha hM)
  have TR := fun w => Lib.hid (rootof_any M 0 hM.most (by omega) w)
  generalize lv M + tv M = rc at TR ⊢
  clear hM ha
  go_enter Try.func29, Try.ntmps29
  go_upto_region 1 with (fail)
  have L := Loc.start w
  replace L := (L).alloc #[.int .u32 (a : Int), .int .i64 p, .slice A n c, .int .i64 (ns : Int), .int .i64 wo, .int .i64 qu, .int .i64 tr] 27
  try simp only [World.size_alloc] at L
  try dsimp only [nput] at L
  generalize (w).alloc (.cells #[.int .u32 (a : Int), .int .i64 p, .slice A n c, .int .i64 (ns : Int), .int .i64 wo, .int .i64 qu, .int .i64 tr] 27) = w1 at L ⊢
  generalize w.heap.size = gH at L ⊢
  have H_0 := L.at_ 0 0 rfl (v := .int .u32 (a : Int)) rfl
  have H_1 := L.at_ 0 1 rfl (v := .int .i64 p) rfl
  have H_z := L.lt 0 rfl
  go_wp2_with fail
  refine ((TM _).out).mono ?_
  rintro e w2 ⟨rfl, K'⟩
  clear H_0 H_1 H_z
  replace L := L.over K'
  go_wp2_with fail
  refine ((TR _).out).mono ?_
  rintro e w' ⟨rfl, rfl⟩
  go_wp2
  go_ret
  exact ⟨rfl, L.K⟩
/-- What a step of seeking answers: the operation, with lists of its own. -/
def RetSk (s : Sc) (l : Ls) (w : World) (e : Ending) (w' : World) : Prop := ∃ h', e = .returned (.agg (opv h' s)) ∧ Lists w.heap.size w' h' l ∧ Below w.heap.size w w'
theorem free_yes {a b b1 b2 b3 M m d t j : Nat} {B : Option Addr} {ys : List Nat} {w : World} (hM : M ≤ 65536) (hab : a ≤ b) (hb : b ≤ lv M) (hU : US w B m d ys) (hm : lv M + tv M < m) (ht : t ≤ 64) (hC : Clo w b1 b2 b3 M a b) (hf : fre a b (gt ys (lv M + t)) t = some j) :
    Calls Try.prog 31 #[.slice B m d, tpsV b1 b2 b3, .int .i64 (t : Int)] w fun e w' => e = .returned (.tuple #[.int .i64 (j : Nat), .bool true]) ∧ Below w.heap.size w w' := by
  refine (free_any hM hab hb hU hm ht hC).mono ?_
  rintro e w' ⟨i, bo, rfl, h1, h2, K⟩
  cases bo with
  | true =>
    obtain ⟨j', rfl, e⟩ := h1 rfl
    rw [hf] at e; cases e
    exact ⟨rfl, K⟩
  | false => have := h2 rfl; rw [hf] at this; cases this
theorem free_no {a b b1 b2 b3 M m d t : Nat} {B : Option Addr} {ys : List Nat} {w : World} (hM : M ≤ 65536) (hab : a ≤ b) (hb : b ≤ lv M) (hU : US w B m d ys) (hm : lv M + tv M < m) (ht : t ≤ 64) (hC : Clo w b1 b2 b3 M a b) (hf : fre a b (gt ys (lv M + t)) t = none) :
    Calls Try.prog 31 #[.slice B m d, tpsV b1 b2 b3, .int .i64 (t : Int)] w fun e w' => ∃ i, e = .returned (.tuple #[.int .i64 i, .bool false]) ∧ Below w.heap.size w w' := by
  refine (free_any hM hab hb hU hm ht hC).mono ?_
  rintro e w' ⟨i, bo, rfl, h1, h2, K⟩
  cases bo with
  | true => obtain ⟨j', _, e⟩ := h1 rfl; rw [hf] at e; cases e
  | false => exact ⟨i, rfl, K⟩
set_option maxRecDepth 100000 in
set_option maxHeartbeats 2000000 in
theorem sstep_root (hL : Lists lo w h l) (h0 : h.n0 ≤ 65536) (hn1 : h.n1 ≤ 65536) (hn2 : h.n2 ≤ 65536) (hn3 : h.n3 ≤ 65536) (hU : US w B m d ys) (hm : lv M + tv M < m) (hw : s.word < 18446744073709551616) (hph : s.phase = 1) (ha : a < 4294967296) (hM : Much a p M) (h1 : 1 ≤ ns) (h2 : ns ≤ 64) (hsh : s.shard = (hd : Int)) (hhd : hd < ns) (hso : s.sought = (k : Int)) (hk : k < ns) (hat : s.at_ = 0) :
    Calls Try.prog 11 #[.agg #[.int .u32 (a : Int), .int .i64 p, .slice A n c, .int .i64 (ns : Int), .int .i64 wo, .int .i64 qu, .int .i64 tr], .slice B m d, .agg (opv h s)] w (RetSk (onS (ns : Int) (ct (lv M) ns ((hd + k) % ns)) (ct (lv M) ns ((hd + k) % ns + 1)) (wdS s (gt ys (lv M + tv M)))) (onL (ns : Int) (ct (lv M) ns ((hd + k) % ns)) (ct (lv M) ns ((hd + k) % ns + 1)) (wdS s (gt ys (lv M + tv M))) l) w) := by
  have TOwn := fun w (L : Lists lo w h l) => Lib.hid (own_any (s := s) L h0 hn1 hn2 hn3)
  have TS := fun w h => Lib.hid (sought_any (w := w) (wo := wo) (qu := qu) (tr := tr) (A := A) (n := n) (c := c) (h := h) (s := s) ha hM h1 h2 hsh hhd hso hk)
  have hq1 : (hd + k) % ns < ns := Nat.mod_lt _ h1
  have hqab : (ct (lv M) ns ((hd + k) % ns)) ≤ (ct (lv M) ns ((hd + k) % ns + 1)) := ct_mono (by omega)
  have hqb : (ct (lv M) ns ((hd + k) % ns + 1)) ≤ lv M := by have := ct_mono (L := lv M) (p := ns) (show (hd + k) % ns + 1 ≤ ns by omega); rw [ct_all h1] at this; exact this
  have hM2 := hM.most
  have TRo := fun w => Lib.hid (sroot_any (w := w) (ns := ns) (wo := wo) (qu := qu) (tr := tr) (A := A) (n := n) (c := c) ha hM)
  have TL := fun w (U : US w B m d ys) => Lib.hid (load_nat U (lv M + tv M) hm)
  have hx := gt_lt hU.fit (lv M + tv M)
  have TO := fun w b1 b2 b3 h (hC : Clo w b1 b2 b3 M (ct (lv M) ns ((hd + k) % ns)) (ct (lv M) ns ((hd + k) % ns + 1))) => Lib.hid (onward_any (w := w) (ba := a) (p := p) (sh := (ns : Int)) (wo := wo) (qu := qu) (tr := tr) (A := A) (n := n) (c := c) (h := h) (s := wdS s (gt ys (lv M + tv M))) (tt := 0) hM2 hqab hqb (show (s.at_ : Int) = ((0 : Nat) : Int) by rw [hat]; rfl) (by omega) hx (show 0 ≤ s.sought by rw [hso]; omega) (show s.sought ≤ 65536 by rw [hso]; omega) hC)
  generalize gt ys (lv M + tv M) = x at *
  generalize lv M + tv M = rc at TRo TL
  generalize (ct (lv M) ns ((hd + k) % ns)) = qa at *
  generalize (ct (lv M) ns ((hd + k) % ns + 1)) = qb at *
  clear hm hqab hqb hx hw hM hM2 hq1 ha hhd hk h1 h2
  rcases s with ⟨kind, addr, err, aad, used, phase, shard, sought, leaf, bit, word, full, at_, tries, item, stamp⟩
  rcases h with ⟨A0, n0, c0, A1, n1, c1, A2, n2, c2, A3, n3, c3⟩
  dsimp only at *
  subst hph hsh hso hat
  dsimp only [wdS] at *
  go_enter Try.func11, Try.ntmps11
  go_upto_region 1 with (fail)
  have L := Loc.start w
  replace L := (((L).alloc #[.int .u32 (a : Int), .int .i64 p, .slice A n c, .int .i64 (ns : Int), .int .i64 wo, .int .i64 qu, .int .i64 tr] 27).alloc (opv ⟨A0, n0, c0, A1, n1, c1, A2, n2, c2, A3, n3, c3⟩ ⟨kind, addr, err, aad, used, 1, (hd : Int), (k : Int), leaf, bit, word, full, 0, tries, item, stamp⟩) 41).alloc #[.int .i64 0, .int .u32 0, .slice none 0 0, .int .i64 0, .int .u32 0, .bool false, .slice none 0 0, .slice none 0 0, .int .i64 0, .int .i64 0, .int .i64 0, .int .i64 0, .int .i64 0, .int .u64 0, .bool false, .slice none 0 0, .int .i64 0, .int .i64 0, .int .i64 0, .int .i64 0] 41
  try simp only [World.size_alloc] at L
  replace L := L.is 0 (opv hd0 sc0) rfl
  try dsimp only [nput] at L
  generalize (((w).alloc (.cells #[.int .u32 (a : Int), .int .i64 p, .slice A n c, .int .i64 (ns : Int), .int .i64 wo, .int .i64 qu, .int .i64 tr] 27)).alloc (.cells (opv ⟨A0, n0, c0, A1, n1, c1, A2, n2, c2, A3, n3, c3⟩ ⟨kind, addr, err, aad, used, 1, (hd : Int), (k : Int), leaf, bit, word, full, 0, tries, item, stamp⟩) 41)).alloc (.cells #[.int .i64 0, .int .u32 0, .slice none 0 0, .int .i64 0, .int .u32 0, .bool false, .slice none 0 0, .slice none 0 0, .int .i64 0, .int .i64 0, .int .i64 0, .int .i64 0, .int .i64 0, .int .u64 0, .bool false, .slice none 0 0, .int .i64 0, .int .i64 0, .int .i64 0, .int .i64 0] 41) = w1 at L ⊢
  generalize w.heap.size + 1 + 1 = gR at L ⊢
  generalize w.heap.size + 1 = gO at L ⊢
  generalize w.heap.size = gH at L ⊢
  go_wp2_with (refine wpList_load_row rfl 41 (.tmp 5) rfl gO rfl _ _ (0, 0) _ (L.bk_ 1 rfl) Try.underlying41 rfl op_sz ?_)
  have KS := L.K.size
  have LbO := L.gs
  refine ((TOwn _ (hL.below L.K)).out).mono ?_
  rintro e w2 ⟨A0', c0', A1', c1', A2', c2', A3', c3', rfl, L', K'⟩
  have Lb := L.lts
  replace L := L.over K'
  replace L := L.lists Lb L'
  replace L := L.sz K'.size
  clear Lb
  try dsimp only [lF, List.cons_append, List.nil_append] at L
  clear L'
  go_upto_region 2 with (refine wpList_store_row rfl 41 (.tmp 5) (.tmp 11) rfl gO _ rfl rfl _ _ (L.bk_ 1 rfl) op_sz rfl (opv_one _ _) ?_)
  replace L := (L.row 1 rfl (opv ⟨A0', n0, c0', A1', n1, c1', A2', n2, c2', A3', n3, c3'⟩ ⟨kind, addr, err, aad, used, 1, (hd : Int), (k : Int), leaf, bit, word, full, 0, tries, item, stamp⟩))
  try dsimp only [nput] at L
  generalize (w2).setRow gO (opv ⟨A0', n0, c0', A1', n1, c1', A2', n2, c2', A3', n3, c3'⟩ ⟨kind, addr, err, aad, used, 1, (hd : Int), (k : Int), leaf, bit, word, full, 0, tries, item, stamp⟩) = w3 at L ⊢
  have O_8 := L.at_ 1 8 rfl (v := .int .i64 1) rfl
  have O_z := L.lt 1 rfl
  go_wp2_with (first | (refine wpList_load_row rfl 27 (.tmp 3) rfl gH rfl _ _ (0, 0) _ (L.bk_ 2 rfl) Try.underlying27 rfl cf_sz ?_) | (refine wpList_load_row rfl 41 (.tmp 5) rfl gO rfl _ _ (0, 0) _ (L.bk_ 1 rfl) Try.underlying41 rfl op_sz ?_))
  refine ((TS _ _).out).mono ?_
  rintro e w4 ⟨b1, b2, b3, rfl, hC, hb, K'⟩
  clear O_8 O_z
  have Lb := L.lts
  replace L := L.over K'
  replace L := L.tops Lb hC hb
  clear Lb
  try dsimp only [lF, List.cons_append, List.nil_append] at L
  clear hC hb
  have O_16 := L.at_ 1 16 rfl (v := .int .i64 0) rfl
  have O_z := L.lt 1 rfl
  go_wp2_with (refine wpList_load_row rfl 27 (.tmp 3) rfl gH rfl _ _ (0, 0) _ (L.bk_ 2 rfl) Try.underlying27 rfl cf_sz ?_)
  refine ((TRo _).out).mono ?_
  rintro e w5 ⟨rfl, K'⟩
  clear O_16 O_z
  replace L := L.over K'
  go_wp2_with fail
  refine ((TL _ (hU.below L.K)).out).mono ?_
  rintro e w' ⟨rfl, rfl⟩
  have O_13 := L.at_ 1 13 rfl (v := .int .u64 ((word : Nat) : Int)) rfl
  have O_z := L.lt 1 rfl
  have O_f13 := L.fz 1 13 rfl
  go_upto_region 7 with fail
  clear O_13 O_z O_f13
  replace L := ((L.set 1 13 rfl (.int .u64 ((x : Nat) : Int))).is 1 (opv ⟨A0', n0, c0', A1', n1, c1', A2', n2, c2', A3', n3, c3'⟩ ⟨kind, addr, err, aad, used, 1, (hd : Int), (k : Int), leaf, bit, x, full, 0, tries, item, stamp⟩) rfl)
  try dsimp only [nput] at L
  generalize (w5).setCell ⟨gO, 13, none⟩ (.int .u64 ((x : Nat) : Int)) = w6 at L ⊢
  go_wp2_with (first | (refine wpList_load_row rfl 27 (.tmp 3) rfl gH rfl _ _ (0, 0) _ (L.bk_ 2 rfl) Try.underlying27 rfl cf_sz ?_) | (refine wpList_load_row rfl 41 (.tmp 5) rfl gO rfl _ _ (0, 0) _ (L.bk_ 1 rfl) Try.underlying41 rfl op_sz ?_))
  refine ((TO _ _ _ _ _ (L.get 0 rfl)).out).mono ?_
  rintro e w7 ⟨rfl, K'⟩
  replace L := L.over K'
  go_wp2_with (refine wpList_store_row rfl 41 (.tmp 6) (.tmp 30) rfl gR _ rfl rfl _ _ (L.bk_ 0 rfl) op_sz rfl (opv_one _ _) ?_)
  replace L := (L.row 0 rfl (opv (onH (ns : Int) qa qb ⟨kind, addr, err, aad, used, 1, (hd : Int), (k : Int), leaf, bit, x, full, 0, tries, item, stamp⟩ ⟨A0', n0, c0', A1', n1, c1', A2', n2, c2', A3', n3, c3'⟩) (onS (ns : Int) qa qb ⟨kind, addr, err, aad, used, 1, (hd : Int), (k : Int), leaf, bit, x, full, 0, tries, item, stamp⟩)))
  try dsimp only [nput] at L
  generalize (w7).setRow gR (opv (onH (ns : Int) qa qb ⟨kind, addr, err, aad, used, 1, (hd : Int), (k : Int), leaf, bit, x, full, 0, tries, item, stamp⟩ ⟨A0', n0, c0', A1', n1, c1', A2', n2, c2', A3', n3, c3'⟩) (onS (ns : Int) qa qb ⟨kind, addr, err, aad, used, 1, (hd : Int), (k : Int), leaf, bit, x, full, 0, tries, item, stamp⟩)) = w8 at L ⊢
  refine bodyPost_ret (v := .agg (opv (onH (ns : Int) qa qb ⟨kind, addr, err, aad, used, 1, (hd : Int), (k : Int), leaf, bit, x, full, 0, tries, item, stamp⟩ ⟨A0', n0, c0', A1', n1, c1', A2', n2, c2', A3', n3, c3'⟩) (onS (ns : Int) qa qb ⟨kind, addr, err, aad, used, 1, (hd : Int), (k : Int), leaf, bit, x, full, 0, tries, item, stamp⟩))) ?_ rfl ?_
  · exact results_cell_row (fn := Try.f11) Try.results11 _ _ gR _ _ (0, 0) _ rfl (L.bk_ 0 rfl) Try.underlying41 rfl op_sz
  exact ⟨_, rfl, onLists ((L.lists_at 2 rfl).lower_ KS), L.K⟩
set_option maxRecDepth 100000 in
set_option maxHeartbeats 2000000 in
theorem sstep_found (hL : Lists lo w h l) (h0 : h.n0 ≤ 65536) (hn1 : h.n1 ≤ 65536) (hn2 : h.n2 ≤ 65536) (hn3 : h.n3 ≤ 65536) (hU : US w B m d ys) (hm : lv M + tv M < m) (hw : s.word < 18446744073709551616) (hph : s.phase = 1) (ha : a < 4294967296) (hM : Much a p M) (h1 : 1 ≤ ns) (h2 : ns ≤ 64) (hsh : s.shard = (hd : Int)) (hhd : hd < ns) (hso : s.sought = (k : Int)) (hk : k < ns) (hat : s.at_ = (tt : Int)) (ht0 : 1 ≤ tt) (htt : tt ≤ 64) {j : Nat} (hf : fre (ct (lv M) ns ((hd + k) % ns)) (ct (lv M) ns ((hd + k) % ns + 1)) (gt ys (lv M + (tt - 1))) (tt - 1) = some j) :
    Calls Try.prog 11 #[.agg #[.int .u32 (a : Int), .int .i64 p, .slice A n c, .int .i64 (ns : Int), .int .i64 wo, .int .i64 qu, .int .i64 tr], .slice B m d, .agg (opv h s)] w (RetSk (foundS s j) l w) := by
  have TOwn := fun w (L : Lists lo w h l) => Lib.hid (own_any (s := s) L h0 hn1 hn2 hn3)
  have TS := fun w h => Lib.hid (sought_any (w := w) (wo := wo) (qu := qu) (tr := tr) (A := A) (n := n) (c := c) (h := h) (s := s) ha hM h1 h2 hsh hhd hso hk)
  have hq1 : (hd + k) % ns < ns := Nat.mod_lt _ h1
  have hqab : (ct (lv M) ns ((hd + k) % ns)) ≤ (ct (lv M) ns ((hd + k) % ns + 1)) := ct_mono (by omega)
  have hqb : (ct (lv M) ns ((hd + k) % ns + 1)) ≤ lv M := by have := ct_mono (L := lv M) (p := ns) (show (hd + k) % ns + 1 ≤ ns by omega); rw [ct_all h1] at this; exact this
  have hM2 := hM.most
  have TFe := fun w b1 b2 b3 (U : US w B m d ys) (hC : Clo w b1 b2 b3 M (ct (lv M) ns ((hd + k) % ns)) (ct (lv M) ns ((hd + k) % ns + 1))) => Lib.hid (free_yes (w := w) (t := tt - 1) hM2 hqab hqb U hm (by omega) hC hf)
  obtain ⟨t1, ht1⟩ : ∃ t1 : Nat, tt = t1 + 1 := ⟨tt - 1, by omega⟩
  have e1 : (tt : Int) - 1 = ((tt - 1 : Nat) : Int) := by omega
  have e0 : ((tt : Int) == 0) = false := by simp; omega
  generalize tt - 1 = t0 at *
  have htb : tt ≤ 64 := htt
  clear ht1 ht0
  generalize (ct (lv M) ns ((hd + k) % ns)) = qa at *
  generalize (ct (lv M) ns ((hd + k) % ns + 1)) = qb at *
  clear hm hqab hqb hw hM hM2 hq1 ha hhd hk h1 h2 hf htt
  rcases s with ⟨kind, addr, err, aad, used, phase, shard, sought, leaf, bit, word, full, at_, tries, item, stamp⟩
  rcases h with ⟨A0, n0, c0, A1, n1, c1, A2, n2, c2, A3, n3, c3⟩
  dsimp only at *
  subst hph hsh hso hat
  go_enter Try.func11, Try.ntmps11
  go_upto_region 1 with (fail)
  have L := Loc.start w
  replace L := (((L).alloc #[.int .u32 (a : Int), .int .i64 p, .slice A n c, .int .i64 (ns : Int), .int .i64 wo, .int .i64 qu, .int .i64 tr] 27).alloc (opv ⟨A0, n0, c0, A1, n1, c1, A2, n2, c2, A3, n3, c3⟩ ⟨kind, addr, err, aad, used, 1, (hd : Int), (k : Int), leaf, bit, word, full, (tt : Int), tries, item, stamp⟩) 41).alloc #[.int .i64 0, .int .u32 0, .slice none 0 0, .int .i64 0, .int .u32 0, .bool false, .slice none 0 0, .slice none 0 0, .int .i64 0, .int .i64 0, .int .i64 0, .int .i64 0, .int .i64 0, .int .u64 0, .bool false, .slice none 0 0, .int .i64 0, .int .i64 0, .int .i64 0, .int .i64 0] 41
  try simp only [World.size_alloc] at L
  replace L := L.is 0 (opv hd0 sc0) rfl
  try dsimp only [nput] at L
  generalize (((w).alloc (.cells #[.int .u32 (a : Int), .int .i64 p, .slice A n c, .int .i64 (ns : Int), .int .i64 wo, .int .i64 qu, .int .i64 tr] 27)).alloc (.cells (opv ⟨A0, n0, c0, A1, n1, c1, A2, n2, c2, A3, n3, c3⟩ ⟨kind, addr, err, aad, used, 1, (hd : Int), (k : Int), leaf, bit, word, full, (tt : Int), tries, item, stamp⟩) 41)).alloc (.cells #[.int .i64 0, .int .u32 0, .slice none 0 0, .int .i64 0, .int .u32 0, .bool false, .slice none 0 0, .slice none 0 0, .int .i64 0, .int .i64 0, .int .i64 0, .int .i64 0, .int .i64 0, .int .u64 0, .bool false, .slice none 0 0, .int .i64 0, .int .i64 0, .int .i64 0, .int .i64 0] 41) = w1 at L ⊢
  generalize w.heap.size + 1 + 1 = gR at L ⊢
  generalize w.heap.size + 1 = gO at L ⊢
  generalize w.heap.size = gH at L ⊢
  go_wp2_with (refine wpList_load_row rfl 41 (.tmp 5) rfl gO rfl _ _ (0, 0) _ (L.bk_ 1 rfl) Try.underlying41 rfl op_sz ?_)
  have KS := L.K.size
  have LbO := L.gs
  refine ((TOwn _ (hL.below L.K)).out).mono ?_
  rintro e w2 ⟨A0', c0', A1', c1', A2', c2', A3', c3', rfl, L', K'⟩
  have Lb := L.lts
  replace L := L.over K'
  replace L := L.lists Lb L'
  replace L := L.sz K'.size
  clear Lb
  try dsimp only [lF, List.cons_append, List.nil_append] at L
  clear L'
  go_upto_region 2 with (refine wpList_store_row rfl 41 (.tmp 5) (.tmp 11) rfl gO _ rfl rfl _ _ (L.bk_ 1 rfl) op_sz rfl (opv_one _ _) ?_)
  replace L := (L.row 1 rfl (opv ⟨A0', n0, c0', A1', n1, c1', A2', n2, c2', A3', n3, c3'⟩ ⟨kind, addr, err, aad, used, 1, (hd : Int), (k : Int), leaf, bit, word, full, (tt : Int), tries, item, stamp⟩))
  try dsimp only [nput] at L
  generalize (w2).setRow gO (opv ⟨A0', n0, c0', A1', n1, c1', A2', n2, c2', A3', n3, c3'⟩ ⟨kind, addr, err, aad, used, 1, (hd : Int), (k : Int), leaf, bit, word, full, (tt : Int), tries, item, stamp⟩) = w3 at L ⊢
  have O_8 := L.at_ 1 8 rfl (v := .int .i64 1) rfl
  have O_z := L.lt 1 rfl
  go_wp2_with (first | (refine wpList_load_row rfl 27 (.tmp 3) rfl gH rfl _ _ (0, 0) _ (L.bk_ 2 rfl) Try.underlying27 rfl cf_sz ?_) | (refine wpList_load_row rfl 41 (.tmp 5) rfl gO rfl _ _ (0, 0) _ (L.bk_ 1 rfl) Try.underlying41 rfl op_sz ?_))
  refine ((TS _ _).out).mono ?_
  rintro e w4 ⟨b1, b2, b3, rfl, hC, hb, K'⟩
  clear O_8 O_z
  have Lb := L.lts
  replace L := L.over K'
  replace L := L.tops Lb hC hb
  clear Lb
  try dsimp only [lF, List.cons_append, List.nil_append] at L
  clear hC hb
  have O_16 := L.at_ 1 16 rfl (v := .int .i64 (tt : Int)) rfl
  have O_z := L.lt 1 rfl
  go_wp2_with fail
  refine ((TFe _ _ _ _ (hU.below L.K) (L.get 0 rfl)).out).mono ?_
  rintro e w5 ⟨rfl, K'⟩
  clear O_16 O_z
  replace L := L.over K'
  have O_8 := L.at_ 1 8 rfl (v := .int .i64 1) rfl
  have O_11 := L.at_ 1 11 rfl (v := .int .i64 leaf) rfl
  have O_13 := L.at_ 1 13 rfl (v := .int .u64 ((word : Nat) : Int)) rfl
  have O_16 := L.at_ 1 16 rfl (v := .int .i64 (tt : Int)) rfl
  have O_z := L.lt 1 rfl
  have O_f8 := L.fz 1 8 rfl
  have O_f11 := L.fz 1 11 rfl
  have O_f13 := L.fz 1 13 rfl
  have O_f16 := L.fz 1 16 rfl
  go_upto_region 12 with fail
  clear O_8 O_11 O_13 O_16 O_z O_f8 O_f11 O_f13 O_f16
  replace L := (((((L.set 1 8 rfl (.int .i64 2)).set 1 11 rfl (.int .i64 (j : Nat))).set 1 13 rfl (.int .u64 0)).set 1 16 rfl (.int .i64 0)).is 1 (opv ⟨A0', n0, c0', A1', n1, c1', A2', n2, c2', A3', n3, c3'⟩ ⟨kind, addr, err, aad, used, 2, (hd : Int), (k : Int), (j : Nat), bit, 0, full, 0, tries, item, stamp⟩) rfl)
  try dsimp only [nput] at L
  generalize ((((w5).setCell ⟨gO, 8, none⟩ (.int .i64 2)).setCell ⟨gO, 11, none⟩ (.int .i64 (j : Nat))).setCell ⟨gO, 13, none⟩ (.int .u64 0)).setCell ⟨gO, 16, none⟩ (.int .i64 0) = w6 at L ⊢
  go_wp2_with (first | (refine wpList_load_row rfl 41 (.tmp 5) rfl gO rfl _ _ (0, 0) _ (L.bk_ 1 rfl) Try.underlying41 rfl op_sz ?_) | (refine wpList_store_row rfl 41 (.tmp 6) (.tmp 51) rfl gR _ rfl rfl _ _ (L.bk_ 0 rfl) op_sz rfl (opv_one _ _) ?_))
  replace L := (L.row 0 rfl (opv ⟨A0', n0, c0', A1', n1, c1', A2', n2, c2', A3', n3, c3'⟩ ⟨kind, addr, err, aad, used, 2, (hd : Int), (k : Int), (j : Nat), bit, 0, full, 0, tries, item, stamp⟩))
  try dsimp only [nput] at L
  generalize (w6).setRow gR (opv ⟨A0', n0, c0', A1', n1, c1', A2', n2, c2', A3', n3, c3'⟩ ⟨kind, addr, err, aad, used, 2, (hd : Int), (k : Int), (j : Nat), bit, 0, full, 0, tries, item, stamp⟩) = w7 at L ⊢
  refine bodyPost_ret (v := .agg (opv ⟨A0', n0, c0', A1', n1, c1', A2', n2, c2', A3', n3, c3'⟩ ⟨kind, addr, err, aad, used, 2, (hd : Int), (k : Int), (j : Nat), bit, 0, full, 0, tries, item, stamp⟩)) ?_ rfl ?_
  · exact results_cell_row (fn := Try.f11) Try.results11 _ _ gR _ _ (0, 0) _ rfl (L.bk_ 0 rfl) Try.underlying41 rfl op_sz
  exact ⟨_, rfl, (L.lists_at 2 rfl).lower_ KS, L.K⟩
set_option maxRecDepth 100000 in
set_option maxHeartbeats 2000000 in
theorem sstep_on (hL : Lists lo w h l) (h0 : h.n0 ≤ 65536) (hn1 : h.n1 ≤ 65536) (hn2 : h.n2 ≤ 65536) (hn3 : h.n3 ≤ 65536) (hU : US w B m d ys) (hm : lv M + tv M < m) (hw : s.word < 18446744073709551616) (hph : s.phase = 1) (ha : a < 4294967296) (hM : Much a p M) (h1 : 1 ≤ ns) (h2 : ns ≤ 64) (hsh : s.shard = (hd : Int)) (hhd : hd < ns) (hso : s.sought = (k : Int)) (hk : k < ns) (hat : s.at_ = (tt : Int)) (ht0 : 1 ≤ tt) (htt : tt ≤ 64) (hf : fre (ct (lv M) ns ((hd + k) % ns)) (ct (lv M) ns ((hd + k) % ns + 1)) (gt ys (lv M + (tt - 1))) (tt - 1) = none) :
    Calls Try.prog 11 #[.agg #[.int .u32 (a : Int), .int .i64 p, .slice A n c, .int .i64 (ns : Int), .int .i64 wo, .int .i64 qu, .int .i64 tr], .slice B m d, .agg (opv h s)] w (RetSk (onS (ns : Int) (ct (lv M) ns ((hd + k) % ns)) (ct (lv M) ns ((hd + k) % ns + 1)) s) (onL (ns : Int) (ct (lv M) ns ((hd + k) % ns)) (ct (lv M) ns ((hd + k) % ns + 1)) s l) w) := by
  have TOwn := fun w (L : Lists lo w h l) => Lib.hid (own_any (s := s) L h0 hn1 hn2 hn3)
  have TS := fun w h => Lib.hid (sought_any (w := w) (wo := wo) (qu := qu) (tr := tr) (A := A) (n := n) (c := c) (h := h) (s := s) ha hM h1 h2 hsh hhd hso hk)
  have hq1 : (hd + k) % ns < ns := Nat.mod_lt _ h1
  have hqab : (ct (lv M) ns ((hd + k) % ns)) ≤ (ct (lv M) ns ((hd + k) % ns + 1)) := ct_mono (by omega)
  have hqb : (ct (lv M) ns ((hd + k) % ns + 1)) ≤ lv M := by have := ct_mono (L := lv M) (p := ns) (show (hd + k) % ns + 1 ≤ ns by omega); rw [ct_all h1] at this; exact this
  have hM2 := hM.most
  have TFe := fun w b1 b2 b3 (U : US w B m d ys) (hC : Clo w b1 b2 b3 M (ct (lv M) ns ((hd + k) % ns)) (ct (lv M) ns ((hd + k) % ns + 1))) => Lib.hid (free_no (w := w) (t := tt - 1) hM2 hqab hqb U hm (by omega) hC hf)
  have TO := fun w b1 b2 b3 h (hC : Clo w b1 b2 b3 M (ct (lv M) ns ((hd + k) % ns)) (ct (lv M) ns ((hd + k) % ns + 1))) => Lib.hid (onward_any (w := w) (ba := a) (p := p) (sh := (ns : Int)) (wo := wo) (qu := qu) (tr := tr) (A := A) (n := n) (c := c) (h := h) (s := s) (tt := tt) hM2 hqab hqb hat (by omega) hw (by rw [hso]; omega) (by rw [hso]; omega) hC)
  obtain ⟨t1, ht1⟩ : ∃ t1 : Nat, tt = t1 + 1 := ⟨tt - 1, by omega⟩
  have e1 : (tt : Int) - 1 = ((tt - 1 : Nat) : Int) := by omega
  have e0 : ((tt : Int) == 0) = false := by simp; omega
  generalize tt - 1 = t0 at *
  have htb : tt ≤ 64 := htt
  clear ht1 ht0
  generalize (ct (lv M) ns ((hd + k) % ns)) = qa at *
  generalize (ct (lv M) ns ((hd + k) % ns + 1)) = qb at *
  clear hm hqab hqb hw hM hM2 hq1 ha hhd hk h1 h2 hf htt
  rcases s with ⟨kind, addr, err, aad, used, phase, shard, sought, leaf, bit, word, full, at_, tries, item, stamp⟩
  rcases h with ⟨A0, n0, c0, A1, n1, c1, A2, n2, c2, A3, n3, c3⟩
  dsimp only at *
  subst hph hsh hso hat
  go_enter Try.func11, Try.ntmps11
  go_upto_region 1 with (fail)
  have L := Loc.start w
  replace L := (((L).alloc #[.int .u32 (a : Int), .int .i64 p, .slice A n c, .int .i64 (ns : Int), .int .i64 wo, .int .i64 qu, .int .i64 tr] 27).alloc (opv ⟨A0, n0, c0, A1, n1, c1, A2, n2, c2, A3, n3, c3⟩ ⟨kind, addr, err, aad, used, 1, (hd : Int), (k : Int), leaf, bit, word, full, (tt : Int), tries, item, stamp⟩) 41).alloc #[.int .i64 0, .int .u32 0, .slice none 0 0, .int .i64 0, .int .u32 0, .bool false, .slice none 0 0, .slice none 0 0, .int .i64 0, .int .i64 0, .int .i64 0, .int .i64 0, .int .i64 0, .int .u64 0, .bool false, .slice none 0 0, .int .i64 0, .int .i64 0, .int .i64 0, .int .i64 0] 41
  try simp only [World.size_alloc] at L
  replace L := L.is 0 (opv hd0 sc0) rfl
  try dsimp only [nput] at L
  generalize (((w).alloc (.cells #[.int .u32 (a : Int), .int .i64 p, .slice A n c, .int .i64 (ns : Int), .int .i64 wo, .int .i64 qu, .int .i64 tr] 27)).alloc (.cells (opv ⟨A0, n0, c0, A1, n1, c1, A2, n2, c2, A3, n3, c3⟩ ⟨kind, addr, err, aad, used, 1, (hd : Int), (k : Int), leaf, bit, word, full, (tt : Int), tries, item, stamp⟩) 41)).alloc (.cells #[.int .i64 0, .int .u32 0, .slice none 0 0, .int .i64 0, .int .u32 0, .bool false, .slice none 0 0, .slice none 0 0, .int .i64 0, .int .i64 0, .int .i64 0, .int .i64 0, .int .i64 0, .int .u64 0, .bool false, .slice none 0 0, .int .i64 0, .int .i64 0, .int .i64 0, .int .i64 0] 41) = w1 at L ⊢
  generalize w.heap.size + 1 + 1 = gR at L ⊢
  generalize w.heap.size + 1 = gO at L ⊢
  generalize w.heap.size = gH at L ⊢
  go_wp2_with (refine wpList_load_row rfl 41 (.tmp 5) rfl gO rfl _ _ (0, 0) _ (L.bk_ 1 rfl) Try.underlying41 rfl op_sz ?_)
  have KS := L.K.size
  have LbO := L.gs
  refine ((TOwn _ (hL.below L.K)).out).mono ?_
  rintro e w2 ⟨A0', c0', A1', c1', A2', c2', A3', c3', rfl, L', K'⟩
  have Lb := L.lts
  replace L := L.over K'
  replace L := L.lists Lb L'
  replace L := L.sz K'.size
  clear Lb
  try dsimp only [lF, List.cons_append, List.nil_append] at L
  clear L'
  go_upto_region 2 with (refine wpList_store_row rfl 41 (.tmp 5) (.tmp 11) rfl gO _ rfl rfl _ _ (L.bk_ 1 rfl) op_sz rfl (opv_one _ _) ?_)
  replace L := (L.row 1 rfl (opv ⟨A0', n0, c0', A1', n1, c1', A2', n2, c2', A3', n3, c3'⟩ ⟨kind, addr, err, aad, used, 1, (hd : Int), (k : Int), leaf, bit, word, full, (tt : Int), tries, item, stamp⟩))
  try dsimp only [nput] at L
  generalize (w2).setRow gO (opv ⟨A0', n0, c0', A1', n1, c1', A2', n2, c2', A3', n3, c3'⟩ ⟨kind, addr, err, aad, used, 1, (hd : Int), (k : Int), leaf, bit, word, full, (tt : Int), tries, item, stamp⟩) = w3 at L ⊢
  have O_8 := L.at_ 1 8 rfl (v := .int .i64 1) rfl
  have O_z := L.lt 1 rfl
  go_wp2_with (first | (refine wpList_load_row rfl 27 (.tmp 3) rfl gH rfl _ _ (0, 0) _ (L.bk_ 2 rfl) Try.underlying27 rfl cf_sz ?_) | (refine wpList_load_row rfl 41 (.tmp 5) rfl gO rfl _ _ (0, 0) _ (L.bk_ 1 rfl) Try.underlying41 rfl op_sz ?_))
  refine ((TS _ _).out).mono ?_
  rintro e w4 ⟨b1, b2, b3, rfl, hC, hb, K'⟩
  clear O_8 O_z
  have Lb := L.lts
  replace L := L.over K'
  replace L := L.tops Lb hC hb
  clear Lb
  try dsimp only [lF, List.cons_append, List.nil_append] at L
  clear hC hb
  have O_16 := L.at_ 1 16 rfl (v := .int .i64 (tt : Int)) rfl
  have O_z := L.lt 1 rfl
  go_wp2_with fail
  refine ((TFe _ _ _ _ (hU.below L.K) (L.get 0 rfl)).out).mono ?_
  rintro e w5 ⟨i, rfl, K'⟩
  clear O_16 O_z
  replace L := L.over K'
  go_wp2_with (first | (refine wpList_load_row rfl 27 (.tmp 3) rfl gH rfl _ _ (0, 0) _ (L.bk_ 2 rfl) Try.underlying27 rfl cf_sz ?_) | (refine wpList_load_row rfl 41 (.tmp 5) rfl gO rfl _ _ (0, 0) _ (L.bk_ 1 rfl) Try.underlying41 rfl op_sz ?_))
  refine ((TO _ _ _ _ _ (L.get 0 rfl)).out).mono ?_
  rintro e w6 ⟨rfl, K'⟩
  replace L := L.over K'
  go_wp2_with (refine wpList_store_row rfl 41 (.tmp 6) (.tmp 45) rfl gR _ rfl rfl _ _ (L.bk_ 0 rfl) op_sz rfl (opv_one _ _) ?_)
  replace L := (L.row 0 rfl (opv (onH (ns : Int) qa qb ⟨kind, addr, err, aad, used, 1, (hd : Int), (k : Int), leaf, bit, word, full, (tt : Int), tries, item, stamp⟩ ⟨A0', n0, c0', A1', n1, c1', A2', n2, c2', A3', n3, c3'⟩) (onS (ns : Int) qa qb ⟨kind, addr, err, aad, used, 1, (hd : Int), (k : Int), leaf, bit, word, full, (tt : Int), tries, item, stamp⟩)))
  try dsimp only [nput] at L
  generalize (w6).setRow gR (opv (onH (ns : Int) qa qb ⟨kind, addr, err, aad, used, 1, (hd : Int), (k : Int), leaf, bit, word, full, (tt : Int), tries, item, stamp⟩ ⟨A0', n0, c0', A1', n1, c1', A2', n2, c2', A3', n3, c3'⟩) (onS (ns : Int) qa qb ⟨kind, addr, err, aad, used, 1, (hd : Int), (k : Int), leaf, bit, word, full, (tt : Int), tries, item, stamp⟩)) = w7 at L ⊢
  refine bodyPost_ret (v := .agg (opv (onH (ns : Int) qa qb ⟨kind, addr, err, aad, used, 1, (hd : Int), (k : Int), leaf, bit, word, full, (tt : Int), tries, item, stamp⟩ ⟨A0', n0, c0', A1', n1, c1', A2', n2, c2', A3', n3, c3'⟩) (onS (ns : Int) qa qb ⟨kind, addr, err, aad, used, 1, (hd : Int), (k : Int), leaf, bit, word, full, (tt : Int), tries, item, stamp⟩))) ?_ rfl ?_
  · exact results_cell_row (fn := Try.f11) Try.results11 _ _ gR _ _ (0, 0) _ rfl (L.bk_ 0 rfl) Try.underlying41 rfl op_sz
  exact ⟨_, rfl, onLists ((L.lists_at 2 rfl).lower_ KS), L.K⟩
theorem sstep_any (hL : Lists lo w h l) (h0 : h.n0 ≤ 65536) (hn1 : h.n1 ≤ 65536) (hn2 : h.n2 ≤ 65536) (hn3 : h.n3 ≤ 65536) (hU : US w B m d ys) (hm : lv M + tv M < m) (hw : s.word < 18446744073709551616) (hph : s.phase = 1) (ha : a < 4294967296) (hM : Much a p M) (h1 : 1 ≤ ns) (h2 : ns ≤ 64) (hsh : s.shard = (hd : Int)) (hhd : hd < ns) (hso : s.sought = (k : Int)) (hk : k < ns) (hat : s.at_ = (tt : Int)) (htt : tt ≤ 64) :
    Calls Try.prog 11 #[.agg #[.int .u32 (a : Int), .int .i64 p, .slice A n c, .int .i64 (ns : Int), .int .i64 wo, .int .i64 qu, .int .i64 tr], .slice B m d, .agg (opv h s)] w (RetSk (skS (ns : Int) M ys (ct (lv M) ns ((hd + k) % ns)) (ct (lv M) ns ((hd + k) % ns + 1)) s) (skL (ns : Int) M ys (ct (lv M) ns ((hd + k) % ns)) (ct (lv M) ns ((hd + k) % ns + 1)) s l) w) := by
  unfold skS skL
  rcases Nat.eq_zero_or_pos tt with rfl | ht
  · rw [if_pos (show s.at_ = 0 from hat), if_pos (show s.at_ = 0 from hat)]
    exact sstep_root hL h0 hn1 hn2 hn3 hU hm hw hph ha hM h1 h2 hsh hhd hso hk hat
  · have hne : s.at_ ≠ 0 := by omega
    rw [if_neg hne, if_neg hne, hat, Int.toNat_natCast]
    cases hf : fre (ct (lv M) ns ((hd + k) % ns)) (ct (lv M) ns ((hd + k) % ns + 1)) (gt ys (lv M + (tt - 1))) (tt - 1) with
    | some j => exact sstep_found hL h0 hn1 hn2 hn3 hU hm hw hph ha hM h1 h2 hsh hhd hso hk hat ht htt hf
    | none => exact sstep_on hL h0 hn1 hn2 hn3 hU hm hw hph ha hM h1 h2 hsh hhd hso hk hat ht htt hf
end
end Go.Proofs.Ytlaejiephpmniaa
