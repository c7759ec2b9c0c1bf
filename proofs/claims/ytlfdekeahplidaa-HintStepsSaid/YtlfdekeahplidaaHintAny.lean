/-
  The document's Step as one contract. Conditions: a configuration that may be, as many cells as there are, an operation whose leaf there is, with At 0 or 1 and Phase 4 or 5, Item from 0 to 65536, at most 65536 addresses, all the block's.
-/
import Derived.Test.YtlfdekeahplidaaHintRs5
namespace Go.Proofs.Ytlfdekeahplidaa
open Go.RowKit
set_option linter.unusedVariables false
section
variable {w : World} {lo lo2 a M m d lf : Nat} {p sh wo qu tr : Int} {A B : Option Addr} {n c : Nat} {xs : List Int} {ys : List Nat} {h : Hd} {s : Sc} {l : Ls}
theorem rstep_any (ha : a < 4294967296) (hM : Much a p M) (hn : h.n0 ≤ 65536) (hI : IS .u32 lo w h.A0 h.n0 h.c0 xs) (hin : InB a M h.n0 xs) (hU : US w B m d ys) (hmm : m = lv M + tv M + 1) (hlf : s.leaf = (lf : Int)) (hlv : lf < lv M) (hat : s.at_ = 0 ∨ s.at_ = 1) (hph : s.phase = 4 ∨ s.phase = 5) (hw : s.word < 18446744073709551616) (hi1 : 0 ≤ s.item) (hi2 : s.item ≤ 65536) :
    Calls Try.prog 18 #[.agg #[.int .u32 a, .int .i64 p, .slice A n c, .int .i64 sh, .int .i64 wo, .int .i64 qu, .int .i64 tr], .slice B m d, .agg (opv h s)] w (RetRef h (stO a M h.n0 xs ys s) m (stC M ys s) w) := by
  have hb := stepb hM.most hlv hmm
  rcases hat with hat | hat
  · obtain ⟨e1, e2⟩ := cel0 (M := M) hlf hat
    rcases hph with hph | hph
    · unfold stO stC lk; rw [if_pos hph, if_pos hph]
      cases hfu : s.full with
      | true =>
        cases hbit : (gt ys (hcel M s)).testBit (bt s) with
        | true =>
          rw [if_pos rfl]
          by_cases hone : (gt ys (hcel M s)) = 18446744073709551615
          · rw [show dn a h.n0 xs (worded s (gt ys (hcel M s))) = root_ (worded s (gt ys (hcel M s))) from if_neg (ends_one (s := worded s (gt ys (hcel M s))) hat hone)]
            exact rs4_0t_yb ha hM hn hI hin hU hb.1 hi1 hi2 hlf hlv (by omega) (by omega) hw e1 e2 hat hfu hph hbit hone
          · rw [show dn a h.n0 xs (worded s (gt ys (hcel M s))) = gon a h.n0 xs (worded s (gt ys (hcel M s))) from if_pos (ends_more (s := worded s (gt ys (hcel M s))) hfu hone)]
            exact rs4_0t_ya ha hM hn hI hin hU hb.1 hi1 hi2 hlf hlv (by omega) (by omega) hw e1 e2 hat hfu hph hbit hone
        | false => rw [if_neg (by simp)]; exact rs4_0t_n ha hM hn hI hin hU hb.1 hi1 hi2 hlf hlv (by omega) (by omega) hw e1 e2 hat hfu hph hbit
      | false =>
        cases hbit : (gt ys (hcel M s)).testBit (bt s) with
        | true => rw [if_neg (by simp)]; exact rs4_0f_n ha hM hn hI hin hU hb.1 hi1 hi2 hlf hlv (by omega) (by omega) hw e1 e2 hat hfu hph hbit
        | false =>
          rw [if_pos rfl]
          rw [show dn a h.n0 xs (worded s (gt ys (hcel M s))) = root_ (worded s (gt ys (hcel M s))) from if_neg (by unfold ends_; simp [worded, hat, hfu])]
          exact rs4_0f_y ha hM hn hI hin hU hb.1 hi1 hi2 hlf hlv (by omega) (by omega) hw e1 e2 hat hfu hph hbit
    · unfold stO stC; rw [if_neg (by omega), if_neg (by omega)]
      by_cases he : gt ys (hcel M s) = s.word
      · rw [if_pos he]
        cases hfu : s.full with
        | true =>
          rw [← hfu]
          by_cases hone : (mkd s.word (bt s) s.full) = 18446744073709551615
          · rw [show dn a h.n0 xs (worded s (mkd s.word (bt s) s.full)) = root_ (worded s (mkd s.word (bt s) s.full)) from if_neg (ends_one (s := worded s (mkd s.word (bt s) s.full)) hat hone)]
            exact rs5_0t_yb ha hM hn hI hin hU hb.1 hi1 hi2 hlf hlv (by omega) (by omega) hw e1 e2 hat hfu hph he (by rw [← hfu]; exact hone)
          · rw [show dn a h.n0 xs (worded s (mkd s.word (bt s) s.full)) = gon a h.n0 xs (worded s (mkd s.word (bt s) s.full)) from if_pos (ends_more (s := worded s (mkd s.word (bt s) s.full)) hfu hone)]
            exact rs5_0t_ya ha hM hn hI hin hU hb.1 hi1 hi2 hlf hlv (by omega) (by omega) hw e1 e2 hat hfu hph he (by rw [← hfu]; exact hone)
        | false =>
          rw [← hfu]
          rw [show dn a h.n0 xs (worded s (mkd s.word (bt s) s.full)) = root_ (worded s (mkd s.word (bt s) s.full)) from if_neg (by unfold ends_; simp [worded, hat, hfu])]
          exact rs5_0f_y ha hM hn hI hin hU hb.1 hi1 hi2 hlf hlv (by omega) (by omega) hw e1 e2 hat hfu hph he
      · rw [if_neg he]
        cases hfu : s.full with
        | true =>
          rw [← hfu]
          by_cases hone : (mkd s.word (bt s) s.full) = 18446744073709551615
          · rw [show dn a h.n0 xs (worded s (mkd s.word (bt s) s.full)) = root_ (worded s (mkd s.word (bt s) s.full)) from if_neg (ends_one (s := worded s (mkd s.word (bt s) s.full)) hat hone)]
            exact rs5_0t_nb ha hM hn hI hin hU hb.1 hi1 hi2 hlf hlv (by omega) (by omega) hw e1 e2 hat hfu hph he (by rw [← hfu]; exact hone)
          · rw [show dn a h.n0 xs (worded s (mkd s.word (bt s) s.full)) = gon a h.n0 xs (worded s (mkd s.word (bt s) s.full)) from if_pos (ends_more (s := worded s (mkd s.word (bt s) s.full)) hfu hone)]
            exact rs5_0t_na ha hM hn hI hin hU hb.1 hi1 hi2 hlf hlv (by omega) (by omega) hw e1 e2 hat hfu hph he (by rw [← hfu]; exact hone)
        | false =>
          rw [← hfu]
          rw [show dn a h.n0 xs (worded s (mkd s.word (bt s) s.full)) = root_ (worded s (mkd s.word (bt s) s.full)) from if_neg (by unfold ends_; simp [worded, hat, hfu])]
          exact rs5_0f_n ha hM hn hI hin hU hb.1 hi1 hi2 hlf hlv (by omega) (by omega) hw e1 e2 hat hfu hph he
  · obtain ⟨e1, e2⟩ := cel1 (M := M) hlf hat
    rcases hph with hph | hph
    · unfold stO stC lk; rw [if_pos hph, if_pos hph]
      cases hfu : s.full with
      | true =>
        cases hbit : (gt ys (hcel M s)).testBit (bt s) with
        | true =>
          rw [if_pos rfl]
          rw [show dn a h.n0 xs (worded s (gt ys (hcel M s))) = gon a h.n0 xs (worded s (gt ys (hcel M s))) from if_pos (by unfold ends_; simp [worded, hat])]
          exact rs4_1t_y ha hM hn hI hin hU hb.1 hi1 hi2 hlf hlv (by omega) (by omega) hw e1 e2 hat hfu hph hbit
        | false => rw [if_neg (by simp)]; exact rs4_1t_n ha hM hn hI hin hU hb.1 hi1 hi2 hlf hlv (by omega) (by omega) hw e1 e2 hat hfu hph hbit
      | false =>
        cases hbit : (gt ys (hcel M s)).testBit (bt s) with
        | true => rw [if_neg (by simp)]; exact rs4_1f_n ha hM hn hI hin hU hb.1 hi1 hi2 hlf hlv (by omega) (by omega) hw e1 e2 hat hfu hph hbit
        | false =>
          rw [if_pos rfl]
          rw [show dn a h.n0 xs (worded s (gt ys (hcel M s))) = gon a h.n0 xs (worded s (gt ys (hcel M s))) from if_pos (by unfold ends_; simp [worded, hat])]
          exact rs4_1f_y ha hM hn hI hin hU hb.1 hi1 hi2 hlf hlv (by omega) (by omega) hw e1 e2 hat hfu hph hbit
    · unfold stO stC; rw [if_neg (by omega), if_neg (by omega)]
      by_cases he : gt ys (hcel M s) = s.word
      · rw [if_pos he]
        cases hfu : s.full with
        | true =>
          rw [← hfu]
          rw [show dn a h.n0 xs (worded s (mkd s.word (bt s) s.full)) = gon a h.n0 xs (worded s (mkd s.word (bt s) s.full)) from if_pos (by unfold ends_; simp [worded, hat])]
          exact rs5_1t_y ha hM hn hI hin hU hb.1 hi1 hi2 hlf hlv (by omega) (by omega) hw e1 e2 hat hfu hph he
        | false =>
          rw [← hfu]
          rw [show dn a h.n0 xs (worded s (mkd s.word (bt s) s.full)) = gon a h.n0 xs (worded s (mkd s.word (bt s) s.full)) from if_pos (by unfold ends_; simp [worded, hat])]
          exact rs5_1f_y ha hM hn hI hin hU hb.1 hi1 hi2 hlf hlv (by omega) (by omega) hw e1 e2 hat hfu hph he
      · rw [if_neg he]
        cases hfu : s.full with
        | true =>
          rw [← hfu]
          rw [show dn a h.n0 xs (worded s (mkd s.word (bt s) s.full)) = gon a h.n0 xs (worded s (mkd s.word (bt s) s.full)) from if_pos (by unfold ends_; simp [worded, hat])]
          exact rs5_1t_n ha hM hn hI hin hU hb.1 hi1 hi2 hlf hlv (by omega) (by omega) hw e1 e2 hat hfu hph he
        | false =>
          rw [← hfu]
          rw [show dn a h.n0 xs (worded s (mkd s.word (bt s) s.full)) = gon a h.n0 xs (worded s (mkd s.word (bt s) s.full)) from if_pos (by unfold ends_; simp [worded, hat])]
          exact rs5_1f_n ha hM hn hI hin hU hb.1 hi1 hi2 hlf hlv (by omega) (by omega) hw e1 e2 hat hfu hph he
end
end Go.Proofs.Ytlfdekeahplidaa
