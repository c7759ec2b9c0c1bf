/-
  Requests as numbers: what they name, and which error they have. No program stands here but for what a test of a configuration answers.
-/
import Derived.Test.YtmakbmmnjbnfiaaDoorModelRefs4
import Derived.Maps.OwnOps
import Derived.Maps.OwnSet
namespace Go.Proofs.YtmakbmmnjbnfiaaDoor
open Go.RowKit
/-- What a request of kind k names. -/
def nmI (k x : Int) (ys : List Int) : List Int := if k = 2 ∨ k = 3 ∨ k = 5 then [x] else if k = 4 then ys else []
/-- The error of the first name that has one; met: those ahead of it. -/
def chk (a M : Nat) (zs : List Int) : List Int → List Int → Int
  | _, [] => 0
  | met, y :: r => if fiE a M y.toNat zs = 0 then (if y ∈ met then 8 else chk a M zs (y :: met) r) else fiE a M y.toNat zs
/-- The error of a request. -/
def askE (a M : Nat) (zs : List Int) (k x : Int) (ys : List Int) : Int :=
  if 1 ≤ k ∧ k ≤ 7 then (if k = 4 ∧ ys.length = 0 then 7 else if k = 4 ∧ 64 < ys.length then 1 else chk a M zs [] (nmI k x ys)) else 1
section
variable {a M : Nat} {zs : List Int}
theorem nmI_one {k x : Int} {ys : List Int} (h : k = 2 ∨ k = 3 ∨ k = 5) : nmI k x ys = [x] := by unfold nmI; rw [if_pos h]
theorem nmI_all {x : Int} {ys : List Int} : nmI 4 x ys = ys := by unfold nmI; rw [if_neg (by omega), if_pos rfl]
theorem nmI_none {k x : Int} {ys : List Int} (h : ¬ (k = 2 ∨ k = 3 ∨ k = 5)) (h4 : k ≠ 4) : nmI k x ys = [] := by unfold nmI; rw [if_neg h, if_neg h4]
theorem nmI_len {k x : Int} {ys : List Int} {n : Nat} (hn : ys.length ≤ n) (h1 : 1 ≤ n) : (nmI k x ys).length ≤ n := by
  unfold nmI; split
  · simpa using h1
  · split
    · exact hn
    · simp
theorem fiE_rng (x : Nat) : fiE a M x zs = 0 ∨ fiE a M x zs = 3 ∨ fiE a M x zs = 4 := by unfold fiE; (repeat' split) <;> simp
theorem chk_rng : ∀ (ys met : List Int), chk a M zs met ys = 0 ∨ chk a M zs met ys = 3 ∨ chk a M zs met ys = 4 ∨ chk a M zs met ys = 8
  | [], _ => .inl rfl
  | y :: r, met => by
    unfold chk
    split
    · split
      · simp
      · exact chk_rng r _
    · have := fiE_rng (a := a) (M := M) (zs := zs) y.toNat; omega
theorem askE_rng (k x : Int) (ys : List Int) : 0 ≤ askE a M zs k x ys ∧ askE a M zs k x ys ≤ 8 := by
  have := chk_rng (a := a) (M := M) (zs := zs) (nmI k x ys) []
  unfold askE
  split
  · split
    · omega
    · split <;> omega
  · omega
/-- One step of it. -/
theorem chk_drop {met ys : List Int} {k : Nat} (h : k < ys.length) : chk a M zs met (ys.drop k) = if fiE a M (gi ys k).toNat zs = 0 then (if gi ys k ∈ met then 8 else chk a M zs (gi ys k :: met) (ys.drop (k + 1))) else fiE a M (gi ys k).toNat zs := by
  rw [drop_gi h]; rfl
theorem take_rev {ys : List Int} {k : Nat} (h : k < ys.length) : (ys.take (k + 1)).reverse = gi ys k :: (ys.take k).reverse := by
  rw [List.take_succ_eq_append_getElem h, List.reverse_append, gi_at h]; rfl
theorem mem_take_rev {ys : List Int} {k : Nat} (hk : k ≤ ys.length) {x : Int} : x ∈ (ys.take k).reverse ↔ ∃ j, j < k ∧ gi ys j = x := by
  rw [List.mem_reverse, List.mem_iff_getElem]
  constructor
  · rintro ⟨j, hj, e⟩
    have hj' : j < k := by rw [List.length_take] at hj; omega
    exact ⟨j, hj', by rw [gi_at (by omega), ← e, List.getElem_take]⟩
  · rintro ⟨j, hj, e⟩
    exact ⟨j, by rw [List.length_take]; omega, by rw [List.getElem_take, ← e, gi_at (by omega)]⟩
/-- The state of the loop: what is left is told as the whole would be. -/
def Left_ (a M : Nat) (zs ys : List Int) (k : Nat) : Prop := chk a M zs [] ys = chk a M zs (ys.take k).reverse (ys.drop k)
theorem Left_.start (a M : Nat) (zs ys : List Int) : Left_ a M zs ys 0 := by unfold Left_; simp
theorem Left_.bad {ys : List Int} {k : Nat} (h : Left_ a M zs ys k) (hk : k < ys.length) {e : Int} (he : fiE a M (gi ys k).toNat zs = e) (hn : e ≠ 0) : chk a M zs [] ys = e := by
  rw [h, chk_drop hk, if_neg (by omega), he]
theorem Left_.twice {ys : List Int} {k : Nat} (h : Left_ a M zs ys k) (hk : k < ys.length) (he : fiE a M (gi ys k).toNat zs = 0) {j : Nat} (hj : j < k) (e : gi ys j = gi ys k) : chk a M zs [] ys = 8 := by
  rw [h, chk_drop hk, if_pos he, if_pos ((mem_take_rev (by omega)).2 ⟨j, hj, e⟩)]
theorem Left_.step {ys : List Int} {k : Nat} (h : Left_ a M zs ys k) (hk : k < ys.length) (he : fiE a M (gi ys k).toNat zs = 0) (hj : ∀ j, j < k → gi ys j ≠ gi ys k) : Left_ a M zs ys (k + 1) := by
  unfold Left_
  rw [h, chk_drop hk, if_pos he, if_neg (fun g => by obtain ⟨j, hj', e⟩ := (mem_take_rev (by omega)).1 g; exact hj j hj' e), take_rev hk]
theorem Left_.end_ {ys : List Int} {k : Nat} (h : Left_ a M zs ys k) (hk : ys.length ≤ k) : chk a M zs [] ys = 0 := by
  rw [h, List.drop_eq_nil_of_le hk]; rfl
/-- Of a list without an error. -/
theorem chk_ok : ∀ {ys met : List Int}, chk a M zs met ys = 0 → (∀ y ∈ ys, fiE a M y.toNat zs = 0 ∧ y ∉ met) ∧ ys.Pairwise (fun x y => x ≠ y)
  | [], _, _ => by simp
  | y :: r, met, h => by
    unfold chk at h
    split at h
    · rename_i he
      split at h
      · omega
      · rename_i hm
        obtain ⟨h1, h2⟩ := chk_ok h
        refine ⟨fun z hz => ?_, ?_⟩
        · rcases List.mem_cons.1 hz with rfl | hz
          · exact ⟨he, hm⟩
          · have := h1 z hz
            exact ⟨this.1, fun g => this.2 (List.mem_cons_of_mem _ g)⟩
        · refine List.Pairwise.cons (fun z hz e => ?_) h2
          subst e
          exact (h1 _ hz).2 List.mem_cons_self
    · omega
theorem chk_app : ∀ {ys met : List Int} (r : List Int), chk a M zs met (ys ++ r) = 0 → chk a M zs met ys = 0
  | [], _, _, _ => rfl
  | y :: l, met, r, h => by
    rw [List.cons_append] at h
    unfold chk at h ⊢
    split at h
    · rename_i he
      rw [if_pos he]
      split at h
      · omega
      · rename_i hm
        rw [if_neg hm]; exact chk_app r h
    · omega
theorem chk_snoc : ∀ {ys met : List Int} (x : Int), chk a M zs met ys = 0 → chk a M zs met (ys ++ [x]) = if fiE a M x.toNat zs = 0 then (if x ∈ met ∨ x ∈ ys then 8 else 0) else fiE a M x.toNat zs
  | [], met, x, _ => by
    rw [List.nil_append]
    unfold chk
    by_cases h1 : fiE a M x.toNat zs = 0
    · rw [if_pos h1, if_pos h1]
      by_cases h2 : x ∈ met
      · rw [if_pos h2, if_pos (.inl h2)]
      · rw [if_neg h2, if_neg (by simpa using h2)]; rfl
    · rw [if_neg h1, if_neg h1]
  | y :: l, met, x, h => by
    rw [List.cons_append]
    unfold chk at h ⊢
    split at h
    · rename_i he
      rw [if_pos he]
      split at h
      · omega
      · rename_i hm
        rw [if_neg hm, chk_snoc x h]
        have e : (x ∈ y :: met ∨ x ∈ l) ↔ (x ∈ met ∨ x ∈ y :: l) := by
          rw [List.mem_cons, List.mem_cons, ← or_assoc, or_comm (a := x = y)]
        simp only [e]
    · exact absurd h (by assumption)
theorem chk_one (x : Int) : chk a M zs [] [x] = fiE a M x.toNat zs := by
  unfold chk
  by_cases h : fiE a M x.toNat zs = 0
  · rw [if_pos h, if_neg (by simp), h]; rfl
  · rw [if_neg h]
theorem chk_two (x : Int) : chk a M zs [] [x, x] = if fiE a M x.toNat zs = 0 then 8 else fiE a M x.toNat zs := by
  unfold chk
  by_cases h : fiE a M x.toNat zs = 0
  · rw [if_pos h, if_pos h, if_neg (by simp)]
    unfold chk
    rw [if_pos h, if_pos (by simp)]
  · rw [if_neg h, if_neg h]
theorem askE_one {k x : Int} {ys : List Int} (h : k = 2 ∨ k = 3 ∨ k = 5) : askE a M zs k x ys = fiE a M x.toNat zs := by
  unfold askE
  rw [if_pos (by omega), if_neg (by omega), if_neg (by omega), nmI_one h, chk_one]
theorem askE_batch {x : Int} {ys : List Int} (h0 : ys.length ≠ 0) (h : ys.length ≤ 64) : askE a M zs 4 x ys = chk a M zs [] ys := by
  unfold askE
  rw [if_pos (by omega), if_neg (by omega), if_neg (by omega), nmI_all]
theorem askE_much {x : Int} {ys : List Int} (h : 64 < ys.length) : askE a M zs 4 x ys = 1 := by
  unfold askE
  rw [if_pos (by omega), if_neg (by omega), if_pos ⟨rfl, h⟩]
/-- A request without an error. -/
theorem askE_ok {k x : Int} {ys : List Int} (h : askE a M zs k x ys = 0) : 1 ≤ k ∧ k ≤ 7 ∧ (k = 4 → 1 ≤ ys.length ∧ ys.length ≤ 64) ∧ chk a M zs [] (nmI k x ys) = 0 := by
  unfold askE at h
  split at h
  · rename_i hk
    split at h
    · omega
    · split at h
      · omega
      · rename_i h1 h2
        refine ⟨hk.1, hk.2, fun e => ⟨?_, ?_⟩, h⟩ <;> omega
  · omega
end
/-! ### the names that were met, as a map -/
open Go.Maps in
def bm : List Int → DataW Unit
  | [] => .map []
  | y :: r => (bm r).put (.int .u32 y) (.lit (.bool true))
theorem bm_map : ∀ l, Maps.IsMap (bm l)
  | [] => Maps.isMap_empty
  | _ :: r => (bm_map r).put _ _
theorem bm_at {x : Int} (hx : WideAt.IsKeyLit (.int .u32 x)) : ∀ l, (bm l).atKey (.int .u32 x) (.lit (.bool false)) = .lit (.bool (decide (x ∈ l)))
  | [] => by simp [bm, DataW.atKey]
  | y :: r => by
    unfold bm
    by_cases h : x = y
    · subst h
      rw [Maps.atKey_put_same (bm_map r) hx]; simp
    · rw [Maps.atKey_put_other (by simpa using h), bm_at hx r]
      simp [h]
theorem plainElem_bool_inv {H : Type} {P : Program} {e : TypeId} (he : P.underlying e = some .bool) {v : Value} {z : DataW H × List MemPlace} (h : plainElem P e v = some z) : ∃ x, v = .bool x ∧ z = (.lit (.bool x), []) := by
  unfold plainElem at h
  rw [he] at h
  cases v <;> simp at h
  subst h
  exact ⟨_, rfl, rfl⟩
/-- A look-up in a map of bools of the call's own. -/
theorem wpList_lookup_own_bool {H : Type} {P : Program} (w : World) {ops : Array Oper} {rest : List Oper} {o : Oper} {a : Act} {Q : Exit → Act → World → Prop}
    (hg : o.guard = none) (m x : Operand) (t : TypeId) (hop : o.op = Op.lookup t m x false)
    (k e : TypeId) (K : Maps.Keyed P k) (ht : P.underlying t = some (.map k e)) (he : P.underlying e = some .bool) (hz : (zeroValue e).run P w = .ok (.bool false) w) (b n : Nat) (D : DataW H)
    (hm : a.eval m = .map (some b)) (hown : w.ownsMap P k (plainElem P e) b n D) (key : Value) (kl : Lit) (hx : a.eval x = key) (hkey : keyOf P k key = some kl) (bo : Bool) (hbo : D.atKey kl (.lit (.bool false)) = .lit (.bool bo))
    (hK : wpList P ops Q rest (a.put o.dst (.bool bo)) w) :
    wpList P ops Q (o :: rest) a w := by
  refine wpList_plain hg fun K' hK' => ?_
  obtain ⟨v, ps, hrun, hv⟩ := hown.lookup K ht hz (plainElem_bool he false) hkey
  obtain ⟨c, rfl, hc⟩ := plainElem_bool_inv he hv
  rw [hbo] at hc
  simp only [Prod.mk.injEq, DataW.lit.injEq, Lit.bool.injEq] at hc
  obtain ⟨rfl, _⟩ := hc
  unfold Oper.wp
  simp [execOp, hop, hm, hx, hrun, Result.andThen]
  exact hK' _ _ hK
end Go.Proofs.YtmakbmmnjbnfiaaDoor

