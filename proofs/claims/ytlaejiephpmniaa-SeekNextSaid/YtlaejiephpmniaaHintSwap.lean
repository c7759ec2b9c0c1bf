/-
  cells.Swap and the document's Set once more: what is answered lies in memory that is new, or, where nothing is swapped, is what was handed in.
-/
import Derived.Test.YtlaejiephpmniaaHintFind0
namespace Go.Proofs.Ytlaejiephpmniaa
open Go.RowKit
set_option linter.unusedVariables false
def RetSN (n : Nat) (xs : List Nat) (w : World) (e : Ending) (w' : World) : Prop := ∃ g c, e = .returned (.tuple #[.slice (some ⟨g, 0, none⟩) n c, .bool true]) ∧ US w' (some ⟨g, 0, none⟩) n c xs ∧ w.heap.size ≤ g ∧ Below w.heap.size w w'
def RetSM (n : Nat) (xs : List Nat) (w : World) (e : Ending) (w' : World) : Prop := ∃ g c, e = .returned (.slice (some ⟨g, 0, none⟩) n c) ∧ US w' (some ⟨g, 0, none⟩) n c xs ∧ w.heap.size ≤ g ∧ Below w.heap.size w w'
theorem US.keep {w w' : World} {A : Option Addr} {n c : Nat} {xs : List Nat} (h : US w A n c xs) (hs : w.heap.size ≤ w'.heap.size) (hk : ∀ b o, A = some ⟨b, o, none⟩ → b < w.heap.size → w'.heap[b]? = w.heap[b]?) : US w' A n c xs :=
  ⟨h.len, h.cap, h.most, h.nil_, h.fit, fun hn => by
    obtain ⟨b, o, e, hlt, hc⟩ := h.cells hn
    exact ⟨b, o, e, Nat.lt_of_lt_of_le hlt hs, fun j hj => (World.cell?_of_block (w := w) (w' := w') (a := ⟨b, o + j, none⟩) (hk b o e hlt)).trans (hc j hj)⟩⟩
theorem US.far {w : World} {g o n c : Nat} {xs : List Nat} (h : US w (some ⟨g, o, none⟩) n c xs) {p : Addr} (hp : g ≠ p.block) (u : Value) : US (w.setCell p u) (some ⟨g, o, none⟩) n c xs :=
  h.keep (by simp [World.setCell]) (fun b o' e _ => by cases e; exact Below.heap_setCell w p u g hp)
theorem US.row_far {w : World} {g o n c : Nat} {xs : List Nat} (h : US w (some ⟨g, o, none⟩) n c xs) {k : Nat} (hp : g ≠ k) (u : Array Value) : US (w.setRow k u) (some ⟨g, o, none⟩) n c xs :=
  h.keep (by simp) (fun b o' e _ => by cases e; exact setRow_other w k g u hp)
set_option maxHeartbeats 800000 in
theorem crset_new {w : World} {A : Option Addr} {n c v : Nat} {xs : List Nat} (h : US w A n c xs) (a : Int) (hn : n ≤ 65536) (hv : v < U64) :
    Calls Try.prog 21 #[.slice A n c, .int .i64 a, .int .u64 (v : Nat)] w (RetSM n (stI xs a v) w) := by
  have hl := Lib.hid h.len
  obtain ⟨i0, hi, hz0, hz1, hz2⟩ := info_parts u64_info
  have hown : (w.alloc (.cells #[] 39)).ownsRow w.heap.size 39 1 (.slice (some ⟨w.heap.size, 0, none⟩) 0 0) 0 [] := World.ownsRow_lit w #[] 0 (Nat.le_refl _) (by unfold maxLen; omega) rfl
  have K0 := below_alloc w (.cells #[] 39)
  obtain ⟨g, c', w1, hap, O1, K1⟩ := run_append_us (P := Try.prog) Try.underlying28 hi hz0 hz1 hz2 hown (h.below K0) hn (Nat.le_refl _) K0.size 28
  have K2 : Below w.heap.size w w1 := K0.trans K1
  have HO := Lib.hid O1
  have HA := Lib.hid hap
  clear O1 K1 hown hi hz0 hz1 hz2 hap
  go_enter Try.func21, Try.ntmps21
  go_wp2_with (at_builtin; refine wpList_append_run rfl (.tmp 9) (.tmp 10) 28 rfl _ _ _ _ rfl rfl HA.out ?_)
  go_loopw [8] (fun i wr => ∃ k : Nat, k ≤ n ∧ i = .int .i64 k ∧ Hid (Own wr w.heap.size g n c' 39 (prt xs a v k)) ∧ Below w.heap.size w wr) (fun i _ => n - (intOf i).toNat)
  case atStart => exact ⟨0, Nat.zero_le _, rfl, Lib.hid (by rw [prt_0]; exact HO.out), K2⟩
  case round =>
    obtain ⟨k, hk, rfl, HOr, Kr⟩ := hrel
    by_cases hlt : k < n
    · by_cases he : (k : Int) = a
      · subst he
        have e1 : ((k : Int) == (k : Int)) = true := by simp
        have c1 := HOr.out.cell hlt
        have f1 := HOr.out.frozen k
        go_wp2
        go_roundw
        case rel => exact ⟨k + 1, by omega, by go_num, Lib.hid (by rw [prt_hit]; exact HOr.out.set_ k v), Kr.setCell HOr.out.ge _⟩
        case measure => simp [intOf]; omega
      · have e1 : ((k : Int) == a) = false := by simpa using he
        have HE := Lib.hid he
        clear he
        go_wp2
        go_roundw
        case rel => exact ⟨k + 1, by omega, by go_num, Lib.hid (by rw [prt_miss xs v HE.out]; exact HOr.out), Kr⟩
        case measure => simp [intOf]; omega
    · go_wp2
      go_ret
      have e : k = n := by omega
      subst e
      refine ⟨_, _, rfl, HOr.out.us ?_ |> (prt_end a v hl.out ▸ ·), HOr.out.ge, Kr⟩
      rw [prt_end a v hl.out]; exact fit_stI h.fit a hv
end Go.Proofs.Ytlaejiephpmniaa

