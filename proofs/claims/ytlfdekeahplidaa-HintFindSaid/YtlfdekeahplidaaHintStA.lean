/-
  Step, the program's and the document's, each as one contract. Conditions: a configuration that may be, as many cells as there are, an operation whose leaf there is, with At 0 or 1 and Phase 4 or 5, at most 65536 addresses, all the block's.
-/
import Derived.Test.YtlfdekeahplidaaHintStep
namespace Go.Proofs.Ytlfdekeahplidaa
open Go.RowKit
set_option linter.unusedVariables false
theorem ends_one {s : Sc} (h : s.at_ = 0) (h2 : s.word = 18446744073709551615) : ¬ ends_ s = true := by unfold ends_; simp [h, h2]
theorem ends_more {s : Sc} (h : s.full = true) (h2 : s.word ≠ 18446744073709551615) : ends_ s = true := by unfold ends_; simp [h, h2]
theorem cel0 {M lf : Nat} {s : Sc} (hlf : s.leaf = (lf : Int)) (h : s.at_ = 0) : hcel M s = lv M + lf / 64 ∧ bt s = lf % 64 := by
  unfold hcel bt; rw [if_pos h, if_pos h, hlf]; exact ⟨rfl, rfl⟩
theorem cel1 {M lf : Nat} {s : Sc} (hlf : s.leaf = (lf : Int)) (h : s.at_ = 1) : hcel M s = lv M + tv M ∧ bt s = lf / 64 := by
  unfold hcel bt; rw [if_neg (by omega), if_neg (by omega), hlf]; exact ⟨rfl, rfl⟩
section
variable {w : World} {lo lo2 a M m d lf : Nat} {p sh wo qu tr : Int} {A B : Option Addr} {n c : Nat} {xs : List Int} {ys : List Nat} {h : Hd} {s : Sc} {l : Ls}
theorem stepb {M lf m : Nat} (hM : M ≤ 65536) (hlv : lf < lv M) (hmm : m = lv M + tv M + 1) : m ≤ 65536 ∧ lv M + lf / 64 < m ∧ lv M + tv M < m ∧ lf % 64 < 64 ∧ lf / 64 < 64 := by
  have h1 := lv_le hM
  have h2 := tv_le hM
  have h3 : lv M ≤ 64 * tv M := by unfold tv tq; omega
  omega
theorem step_any (ha : a < 4294967296) (hM : Much a p M) (hn : h.n0 ≤ 65536) (hI : IS .u32 lo w h.A0 h.n0 h.c0 xs) (hin : InB a M h.n0 xs) (L : Lists lo2 w h l) (h1 : h.n1 ≤ 65536) (h2 : h.n2 ≤ 65536) (h3 : h.n3 ≤ 65536) (hU : US w B m d ys) (hmm : m = lv M + tv M + 1) (hlf : s.leaf = (lf : Int)) (hlv : lf < lv M) (hat : s.at_ = 0 ∨ s.at_ = 1) (hph : s.phase = 4 ∨ s.phase = 5) (hw : s.word < 18446744073709551616) :
    Calls Try.prog 17 #[.agg #[.int .u32 a, .int .i64 p, .slice A n c, .int .i64 sh, .int .i64 wo, .int .i64 qu, .int .i64 tr], .slice B m d, .agg (opv h s)] w (RetStep h (stO a M h.n0 xs ys s) l m (stC M ys s) B w) := by
  have hb := stepb hM.most hlv hmm
  rcases hat with hat | hat
  · obtain ⟨e1, e2⟩ := cel0 (M := M) hlf hat
    rcases hph with hph | hph
    · unfold stO stC; rw [if_pos hph, if_pos hph]
      exact step4_0 ha hM hn hI hin L h1 h2 h3 hU hb.1 hlf hlv (by omega) (by omega) hw e1 e2 hat hph
    · unfold stO stC; rw [if_neg (by omega), if_neg (by omega)]
      by_cases he : gt ys (hcel M s) = s.word
      · rw [if_pos he]; exact step5_0_y ha hM hn hI hin L h1 h2 h3 hU hb.1 hlf hlv (by omega) (by omega) hw e1 e2 hat hph he
      · rw [if_neg he]; exact step5_0_n ha hM hn hI hin L h1 h2 h3 hU hb.1 hlf hlv (by omega) (by omega) hw e1 e2 hat hph he
  · obtain ⟨e1, e2⟩ := cel1 (M := M) hlf hat
    rcases hph with hph | hph
    · unfold stO stC; rw [if_pos hph, if_pos hph]
      exact step4_1 ha hM hn hI hin L h1 h2 h3 hU hb.1 hlf hlv (by omega) (by omega) hw e1 e2 hat hph
    · unfold stO stC; rw [if_neg (by omega), if_neg (by omega)]
      by_cases he : gt ys (hcel M s) = s.word
      · rw [if_pos he]; exact step5_1_y ha hM hn hI hin L h1 h2 h3 hU hb.1 hlf hlv (by omega) (by omega) hw e1 e2 hat hph he
      · rw [if_neg he]; exact step5_1_n ha hM hn hI hin L h1 h2 h3 hU hb.1 hlf hlv (by omega) (by omega) hw e1 e2 hat hph he
end
end Go.Proofs.Ytlfdekeahplidaa
