/-
  cells.Swap and the document's Set once more: what is answered lies in memory that is new, or, where nothing is swapped, is what was handed in.
-/
import Derived.Test.YtafdlofmgefdoaaHintGoes
namespace Go.Proofs.Ytafdlofmgefdoaa
open Go.RowKit
set_option linter.unusedVariables false
def RetSN (n : Nat) (xs : List Nat) (w : World) (e : Ending) (w' : World) : Prop := ∃ g c, e = .returned (.tuple #[.slice (some ⟨g, 0, none⟩) n c, .bool true]) ∧ US w' (some ⟨g, 0, none⟩) n c xs ∧ w.heap.size ≤ g ∧ Below w.heap.size w w'
def RetSM (n : Nat) (xs : List Nat) (w : World) (e : Ending) (w' : World) : Prop := ∃ g c, e = .returned (.slice (some ⟨g, 0, none⟩) n c) ∧ US w' (some ⟨g, 0, none⟩) n c xs ∧ w.heap.size ≤ g ∧ Below w.heap.size w w'
theorem US.keep {w w' : World} {A : Option Addr} {n c : Nat} {xs : List Nat} (h : US w A n c xs) (hs : w.heap.size ≤ w'.heap.size) (hk : ∀ b o, A = some ⟨b, o, none⟩ → b < w.heap.size → w'.heap[b]? = w.heap[b]?) : US w' A n c xs :=
  ⟨h.len, h.cap, h.most, h.nil_, h.fit, fun hn => by
    obtain ⟨b, o, e, hlt, hc⟩ := h.cells hn
    exact ⟨b, o, e, Nat.lt_of_lt_of_le hlt hs, fun j hj => (World.cell?_of_block (w := w) (w' := w') (a := ⟨b, o + j, none⟩) (hk b o e hlt)).trans (hc j hj)⟩⟩
theorem US.far {w : World} {g o n c : Nat} {xs : List Nat} (h : US w (some ⟨g, o, none⟩) n c xs) {p : Addr} (hp : g ≠ p.block) (u : Value) : US (w.setCell p u) (some ⟨g, o, none⟩) n c xs :=
  h.keep (by simp [World.setCell]) (fun b o' e _ => by cases e; exact Below.heap_setCell w p u g hp)
theorem US.row_far {w : World} {g o n c : Nat} {xs : List Nat} (h : US w (some ⟨g, o, none⟩) n c xs) {k : Nat} (hp : g ≠ k) (u : Array Value) : US (w.setRow k u) (some ⟨g, o, none⟩) n c xs :=
  h.keep (by simp) (fun b o' e _ => by cases e; exact setRow_other w k g u hp)
set_option maxHeartbeats 800000 in
theorem turn_swap_new {w : World} {A : Option Addr} {n c a v g k : Nat} {xs : List Nat} (h : US w A n c xs) (ha : a < n) (hn : n ≤ 65536) (hv : w.cell? ⟨g, 0, none⟩ = some (.int .u64 (v : Nat))) (hk : w.cell? ⟨k, 0, none⟩ = some (.int .u64 (gt xs a : Nat))) (hvl : v < U64) :
    Calls Try.prog 51 #[.slice A n c, .int .i64 (a : Nat), .func (.func 52) #[] #[.pointer (some ⟨g, 0, none⟩), .pointer (some ⟨k, 0, none⟩)]] w (RetSN n (xs.set a v) w) := by
  obtain ⟨b, o, rfl, hb, hc⟩ := h.get ha
  obtain ⟨i0, hi, hz0, hz1, hz2⟩ := info_parts u64_info
  have hl := Lib.hid h.len
  have hb8 : i0.bytes * n ≤ 281474976710656 := by rw [hz2]; omega
  go_enter Try.func51, Try.ntmps51
  go_wp2_with (first
    | (go_at_call 48; refine (there_yes _ _ _ _ ha _).mono ?_; rintro e w' ⟨rfl, rfl⟩)
    | (go_at_call 52; refine (clo_swap_yes hv hk).mono ?_; rintro e wd ⟨rfl, m, hm⟩; have K0 : Below w.heap.size w wd := hm ▸ drewN_below w m; clear hm)
    | (at_make; refine wpList_make_full _ rfl (.tmp 29) (.tmp 29) _ rfl w.heap.size 40 i0 _ 1 Try.underlying28 hi hz0 hz1 .i64 .i64 _ _ n rfl rfl rfl rfl hb8 (by unfold maxLen; omega) K0.size ?_; intro w1 hown1 hg1; have B1 := Blk.of_made hown1; clear hown1; have K1 : Below w.heap.size w w1 := K0.grown hg1 K0.size (by simp); clear hg1; obtain ⟨w2, hcp, B2, K2⟩ := run_copy_all (P := Try.prog) Try.underlying28 u64_size h K1 (by omega) B1 K0.size K1 3; have c2 := B2.cell (i := a) (by rw [hl.out]; exact ha); have f2 := B2.frozen a))
  go_ret2
  refine ⟨_, _, rfl, ?_, K0.size, ?_⟩
  · exact (B2.set_ a v).us (fit_set h.fit a hvl) (by simp [h.len]) hn
  · exact K2.setCell K0.size _
set_option maxHeartbeats 800000 in
theorem swap_new {w : World} {A : Option Addr} {n c a v : Nat} {xs : List Nat} (h : US w A n c xs) (ha : a < n) (hn : n ≤ 65536) (hv : v < U64) :
    Calls Try.prog 44 #[.slice A n c, .int .i64 (a : Nat), .int .u64 (gt xs a : Nat), .int .u64 (v : Nat)] w (RetSN n (xs.set a v) w) := by
  have hb2 : Below w.heap.size w ((w.alloc (.cells #[.int .u64 (gt xs a : Nat)] 40)).alloc (.cells #[.int .u64 (v : Nat)] 40)) := (below_alloc w _).alloc (by simp) _
  have T := Lib.hid (turn_swap_new (g := w.heap.size + 1) (k := w.heap.size) (h.below hb2) ha hn (by simp) (by simp) hv)
  go_enter Try.func44, Try.ntmps44
  go_wp2_with (go_at_call 51; refine (T.out).mono ?_; rintro e w' ⟨A1, c1, rfl, U1, G1, K1⟩)
  go_ret2
  exact ⟨_, _, rfl, U1, Nat.le_trans hb2.size G1, (RetS.ret U1 hb2 K1).2⟩
set_option maxHeartbeats 800000 in
theorem swap_same {w : World} {A : Option Addr} {n c a v y : Nat} {xs : List Nat} (h : US w A n c xs) (ha : a < n) (hne : gt xs a ≠ y) :
    Calls Try.prog 44 #[.slice A n c, .int .i64 (a : Nat), .int .u64 (y : Nat), .int .u64 (v : Nat)] w fun e w' => e = .returned (.tuple #[.slice A n c, .bool false]) ∧ Below w.heap.size w w' := by
  have hb2 : Below w.heap.size w ((w.alloc (.cells #[.int .u64 (y : Nat)] 40)).alloc (.cells #[.int .u64 (v : Nat)] 40)) := (below_alloc w _).alloc (by simp) _
  have T := Lib.hid (turn_swap_no (v := v) (g := w.heap.size + 1) (k := w.heap.size) (h.below hb2) ha (by simp) (by simp) hne)
  go_enter Try.func44, Try.ntmps44
  go_wp2_with (go_at_call 51; refine (T.out).mono ?_; rintro e w' ⟨rfl, m, hm⟩; have K1 := hm ▸ drewN_below _ m; clear hm)
  go_ret2
  have K2 := hb2.trans (K1.mono hb2.size)
  exact ⟨rfl, K2⟩
set_option maxHeartbeats 800000 in
theorem crset_new {w : World} {A : Option Addr} {n c v : Nat} {xs : List Nat} (h : US w A n c xs) (a : Int) (hn : n ≤ 65536) (hv : v < U64) :
    Calls Try.prog 20 #[.slice A n c, .int .i64 a, .int .u64 (v : Nat)] w (RetSM n (stI xs a v) w) := by
  have hl := Lib.hid h.len
  obtain ⟨i0, hi, hz0, hz1, hz2⟩ := info_parts u64_info
  have hown : (w.alloc (.cells #[] 40)).ownsRow w.heap.size 40 1 (.slice (some ⟨w.heap.size, 0, none⟩) 0 0) 0 [] := World.ownsRow_lit w #[] 0 (Nat.le_refl _) (by unfold maxLen; omega) rfl
  have K0 := below_alloc w (.cells #[] 40)
  obtain ⟨g, c', w1, hap, O1, K1⟩ := run_append_us (P := Try.prog) Try.underlying28 hi hz0 hz1 hz2 hown (h.below K0) hn (Nat.le_refl _) K0.size 28
  have K2 : Below w.heap.size w w1 := K0.trans K1
  have HO := Lib.hid O1
  have HA := Lib.hid hap
  clear O1 K1 hown hi hz0 hz1 hz2 hap
  go_enter Try.func20, Try.ntmps20
  go_wp2_with (at_builtin; refine wpList_append_run rfl (.tmp 9) (.tmp 10) 28 rfl _ _ _ _ rfl rfl HA.out ?_)
  go_loopw [8] (fun i wr => ∃ k : Nat, k ≤ n ∧ i = .int .i64 k ∧ Hid (Own wr w.heap.size g n c' 40 (prt xs a v k)) ∧ Below w.heap.size w wr) (fun i _ => n - (intOf i).toNat)
  case atStart => exact ⟨0, Nat.zero_le _, rfl, Lib.hid (by rw [prt_0]; exact HO.out), K2⟩
  case round =>
    obtain ⟨k, hk, rfl, HOr, Kr⟩ := hrel
    by_cases hlt : k < n
    · by_cases he : (k : Int) = a
      · subst he
        have e1 : ((k : Int) == (k : Int)) = true := by simp
        have c1 := HOr.out.cell hlt
        have f1 := HOr.out.frozen k
        go_wp2
        go_roundw
        case rel => exact ⟨k + 1, by omega, by go_num, Lib.hid (by rw [prt_hit]; exact HOr.out.set_ k v), Kr.setCell HOr.out.ge _⟩
        case measure => simp [intOf]; omega
      · have e1 : ((k : Int) == a) = false := by simpa using he
        have HE := Lib.hid he
        clear he
        go_wp2
        go_roundw
        case rel => exact ⟨k + 1, by omega, by go_num, Lib.hid (by rw [prt_miss xs v HE.out]; exact HOr.out), Kr⟩
        case measure => simp [intOf]; omega
    · go_wp2
      go_ret
      have e : k = n := by omega
      subst e
      refine ⟨_, _, rfl, HOr.out.us ?_ |> (prt_end a v hl.out ▸ ·), HOr.out.ge, Kr⟩
      rw [prt_end a v hl.out]; exact fit_stI h.fit a hv
end Go.Proofs.Ytafdlofmgefdoaa

