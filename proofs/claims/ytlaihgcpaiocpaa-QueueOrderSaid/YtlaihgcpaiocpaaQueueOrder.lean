/-
  The walk of the statement QueueOrder: for every number and list of deeds the law answers true, and nothing that was there is otherwise; no conditions.
-/
import Derived.Test.YtlaihgcpaiocpaaQueueOrderInv
import Derived.Deep.RegionHeld3
namespace Go.Proofs.Ytlaihgcpaiocpaa.queueOrder
open Go.RowKit
theorem may_is {m : Int} {A : Option Addr} {n c : Nat} {cl b : Bool} {w : World} (h : mayB m n = b) :
    Calls Try.prog 7 #[.agg #[.int .i64 m, .slice A n c, .bool cl]] w fun e w' => e = .returned (.bool b) ∧ Below w.heap.size w w' := by
  subst h; exact may_any _ _ _ _ _ _
theorem s_step {w0 w2 w3 : World} {g : Nat} {a b c : Value} (h : w2.cell? ⟨g, 0, none⟩ = some a ∧ w2.cell? ⟨g, 1, none⟩ = some b ∧ w2.cell? ⟨g, 2, none⟩ = some c ∧ Below w0.heap.size w0 w2) (hg : g < w0.heap.size) (K : Below w2.heap.size w2 w3) :
    w3.cell? ⟨g, 0, none⟩ = some a ∧ w3.cell? ⟨g, 1, none⟩ = some b ∧ w3.cell? ⟨g, 2, none⟩ = some c ∧ Below w0.heap.size w0 w3 := by
  have hl : g < w2.heap.size := Nat.lt_of_lt_of_le hg h.2.2.2.size
  exact ⟨(K.cell (p := ⟨g, 0, none⟩) hl).trans h.1, (K.cell (p := ⟨g, 1, none⟩) hl).trans h.2.1, (K.cell (p := ⟨g, 2, none⟩) hl).trans h.2.2.1, Below.then_ h.2.2.2 K⟩
theorem sL {w0 w2 : World} {p q r : Prop} (h : p ∧ q ∧ r ∧ Below w0.heap.size w0 w2) : Below w0.heap.size w0 w2 := h.2.2.2
theorem big (X len1 cap1 : Nat) (a1 : Option Addr) (w : World) (hn : 300 < len1) :
    Calls Try.prog 4 #[.int .u8 (X : Int), .slice a1 len1 cap1] w fun e w' => e = .returned (.bool true) ∧ Below w.heap.size w w' := by
  have hd : decide ((300 : Int) < (len1 : Int)) = true := by simp; omega
  go_enter Try.func4, Try.ntmps4
  go_wp2_with fail
  refine (awake_any _).mono ?_
  rintro e w1 ⟨rfl, K1⟩
  go_wp2_with fail
  refine (awake_any _).mono ?_
  rintro e w2 ⟨rfl, K2⟩
  go_wp2
  go_ret
  exact ⟨rfl, Below.then_ K1 K2⟩
set_option maxRecDepth 100000 in
set_option maxHeartbeats 4000000 in
theorem small (X p len1 cap1 : Nat) (a1 : Option Addr) (ds : List Int) (w : World) (hp : (X : Int) % 64 = (p : Int)) (_hp : p < 64) (hn : len1 ≤ 300) (D : IS .i16 0 w a1 len1 cap1 ds) (hD : ∀ x ∈ ds, (Lit.int .i16 x).wf = true) :
    Calls Try.prog 4 #[.int .u8 (X : Int), .slice a1 len1 cap1] w fun e w' => e = .returned (.bool true) ∧ Below w.heap.size w w' := by
  have hd : decide ((300 : Int) < (len1 : Int)) = false := by simp; omega
  have HD := Lib.hid D
  have HW := Lib.hid hD
  clear D hD
  have K := Below.refl w.heap.size w
  go_enter Try.func4, Try.ntmps4
  go_wp2_with fail
  refine (awake_any _).mono ?_
  rintro e w1 ⟨rfl, K'⟩
  replace K := Below.then_ K K'
  clear K'
  go_wp2_with fail
  refine (new_yes (m := 1 + (p : Int)) (by omega) (by omega) _).mono ?_
  rintro e w2 ⟨rfl, K'⟩
  replace K := Below.then_ K K'
  clear K' hd
  have hg : w.heap.size ≤ w2.heap.size := K.size
  go_wp2_with fail
  have HQ := Q3.new w2 (.int .i64 (1 + (p : Int))) (.slice none 0 0) (.bool false)
  replace K := K.alloc K.size (.cells #[.int .i64 (1 + (p : Int)), .slice none 0 0, .bool false] 24)
  obtain ⟨g, hgg⟩ : ∃ g, Hid (g = w2.heap.size) := ⟨_, Lib.hid rfl⟩
  rw [← hgg.out] at HQ hg ⊢
  generalize w2.alloc (.cells #[.int .i64 (1 + (p : Int)), .slice none 0 0, .bool false] 24) = w3 at HQ K ⊢
  clear hgg
  have H0 : Inv w3 g (1 + (p : Int)) 0 0 [] none 0 none 0 false := ⟨HQ, IS.none_ _ _ _, World.ownsRow_nil w3 _ _ 1, fun b off h => absurd h (by omega)⟩
  clear HQ
  have HK := Lib.hid K
  clear K
  go_loopw [7, 8, 9, 10] (fun s7 s8 s9 s10 wr => ∃ (k o j : Nat) (L : List Int) (Ai : Option Addr) (ci : Nat) (Aq : Option Addr) (cq : Nat) (cl : Bool), k ≤ len1 ∧ o + j ≤ k ∧ j ≤ p + 1 ∧ s7 = .slice Ai (o + j) ci ∧ s8 = .int .i64 o ∧ s9 = .bool cl ∧ s10 = .int .i64 k ∧ Inv wr g (1 + (p : Int)) o j L Ai ci Aq cq cl ∧ Below w.heap.size w wr) (fun _ _ _ s10 _ => len1 - (intOf s10).toNat)
  case atStart => exact ⟨0, 0, 0, [], none, 0, none, 0, false, Nat.zero_le _, Nat.zero_le _, Nat.zero_le _, rfl, rfl, rfl, rfl, H0, HK.out⟩
  case round =>
    obtain ⟨k, o, j, L, Ai, ci, Aq, cq, cl, hk, hok, hj, rfl, rfl, rfl, rfl, h, K⟩ := hrel
    clear H0 HK
    by_cases hlt : k < len1
    · have D := HD.out.below K
      obtain ⟨db, dof, rfl, hdb, hdc⟩ := D.get hlt
      have hw := wf_i16 (HW.out _ (gi_mem (j := k) (by rw [D.len]; exact hlt)))
      obtain ⟨d, hdd⟩ : ∃ d, gi ds k = d := ⟨_, rfl⟩
      rw [hdd] at hdc hw
      clear hdd D
      obtain ⟨hw1, hw2⟩ := hw
      have q0 := h.q.c0
      have q1 := h.q.c1
      have q2 := h.q.c2
      by_cases h50 : (d.tmod 50 == 0) = true
      · have T := Lib.hid (close_any (m := 1 + (p : Int)) (cl := cl) h.i (by omega))
        go_wp2_with fail
        refine (T.out).mono ?_
        rintro e w4 ⟨A', c', rfl, I', K'⟩
        clear T q0 q1 q2
        have q0 := (h.q.below K').c0
        have q1 := (h.q.below K').c1
        have q2 := (h.q.below K').c2
        have f0 := (h.q.below K').fz 0
        have f1 := (h.q.below K').fz 1
        have f2 := (h.q.below K').fz 2
        go_wp2
        go_roundw
        case rel => exact ⟨k + 1, o, j, L, Ai, ci, A', c', true, by omega, by omega, hj, rfl, rfl, rfl, by go_num, h.store K' I' rfl true, below_set3 (Below.then_ K K') hg _ _ _⟩
        case measure => simp [intOf]; omega
      · have h50 : (d.tmod 50 == 0) = false := by simpa using h50
        by_cases hpos : 0 < d
        · have h51 : (d % 50 == 0) = false := by rw [← Int.tmod_eq_emod_of_nonneg (by omega)]; exact h50
          cases cl with
          | true =>
            have T := Lib.hid (put_closed (w := wr) (m := 1 + (p : Int)) (A := Aq) (n := j) (c := cq) (x := d))
            go_wp2_with fail
            refine (T.out).mono ?_
            rintro e w4 ⟨rfl, K'⟩
            clear T q0 q1 q2
            have q0 := (h.q.below K').c0
            have q1 := (h.q.below K').c1
            have q2 := (h.q.below K').c2
            have f0 := (h.q.below K').fz 0
            have f1 := (h.q.below K').fz 1
            have f2 := (h.q.below K').fz 2
            have qz := (h.q.below K').lt
            go_wp2
            go_roundw
            case rel =>
              have KB := below_set3 (Below.then_ K K') hg (.int .i64 (1 + (p : Int))) (.slice Aq j cq) (.bool true)
              exact ⟨k + 1, o, j, L, Ai, ci, Aq, cq, true, by omega, by omega, hj, rfl, rfl, rfl, by go_num, (h.again K').alloc _, KB.alloc KB.size _⟩
            case measure => simp [intOf]; omega
          | false =>
            by_cases hfull : j = p + 1
            · subst hfull
              have T := Lib.hid (put_busy (w := wr) (m := 1 + (p : Int)) (A := Aq) (n := p + 1) (c := cq) (x := d) (by omega))
              go_wp2_with fail
              refine (T.out).mono ?_
              rintro e w4 ⟨rfl, K'⟩
              clear T q0 q1 q2
              have q0 := (h.q.below K').c0
              have q1 := (h.q.below K').c1
              have q2 := (h.q.below K').c2
              have f0 := (h.q.below K').fz 0
              have f1 := (h.q.below K').fz 1
              have f2 := (h.q.below K').fz 2
              have qz := (h.q.below K').lt
              go_wp2
              go_roundw
              case rel =>
                have KB := below_set3 (Below.then_ K K') hg (.int .i64 (1 + (p : Int))) (.slice Aq (p + 1) cq) (.bool false)
                exact ⟨k + 1, o, p + 1, L, Ai, ci, Aq, cq, false, by omega, by omega, by omega, rfl, rfl, rfl, by go_num, (h.again K').alloc _, KB.alloc KB.size _⟩
              case measure => simp [intOf]; omega
            · have T := Lib.hid (put_ok (m := 1 + (p : Int)) (x := d) h.i (by omega) (by omega))
              go_wp2_with fail
              refine (T.out).mono ?_
              rintro e w4 ⟨A', c', rfl, I', K'⟩
              clear T q0 q1 q2
              obtain ⟨i0, hi, hz0, hz1, hz2⟩ := info_parts int_info
              have K5 := Below.then_ (below_alloc w4 (.cells #[.int .i64 (1 + (p : Int)), .slice A' (j + 1) c', .bool false] 24)) (below_alloc _ (.cells #[.int .i64 d] 3))
              have hs := gone (k := .i64) (w := (w4.alloc (.cells #[.int .i64 (1 + (p : Int)), .slice A' (j + 1) c', .bool false] 24)).alloc (.cells #[.int .i64 d] 3)) (x := d) (g := w4.heap.size + 1) (by have h := cell_new (w4.alloc (.cells #[.int .i64 (1 + (p : Int)), .slice A' (j + 1) c', .bool false] 24)) (.int .i64 d) 3; simpa only [World.size_alloc] using h) (by unfold maxLen; omega)
              obtain ⟨A2, c2, w6, hap, O6, G6, B6⟩ := run_append_onto (P := Try.prog) Try.underlying22 hi hz0 hz1 hz2 (own_below h.own (Below.then_ K' K5)) hs (by omega) (by have := (Below.then_ K' K5).size; have := h.q.lt; omega) 22
              have L6 : Below (g + 1) ((w4.alloc (.cells #[.int .i64 (1 + (p : Int)), .slice A' (j + 1) c', .bool false] 24)).alloc (.cells #[.int .i64 d] 3)) w6 := (Below.refl _ _).grown G6 (by have := (Below.then_ K' K5).size; have := h.q.lt; omega) (own_ge h.own)
              have HN := h.local_ K'.size ((Q3.new w4 (.int .i64 (1 + (p : Int))) (.slice A' (j + 1) c') (.bool false)).alloc (.cells #[.int .i64 d] 3)) G6
              have HG := ((h.q.below K').below K5).under L6 (Nat.lt_succ_self g)
              have HP := Lib.hid (h.push K' I' K5 O6 G6 B6)
              have HL := Lib.hid (below_set3 ((Below.then_ (Below.then_ K K') K5).trans (L6.mono (by omega))) hg (.int .i64 (1 + (p : Int))) (.slice A' (j + 1) c') (.bool false))
              have HA := Lib.hid hap
              clear hap O6 G6 B6 L6 hs K5 hi hz0 hz1 hz2
              have n0 := HN.c0
              have n1 := HN.c1
              have n2 := HN.c2
              have q0 := HG.c0
              have q1 := HG.c1
              have q2 := HG.c2
              have f0 := HG.fz 0
              have f1 := HG.fz 1
              have f2 := HG.fz 2
              have qz := HG.lt
              clear HN HG
              go_wp2_with (at_builtin; refine wpList_append_run rfl (.tmp 94) (.tmp 96) 22 rfl _ _ _ _ rfl rfl HA.out ?_)
              go_roundw
              case rel => exact ⟨k + 1, o, j + 1, L ++ [d], A2, c2, A', c', false, by omega, by omega, by omega, rfl, rfl, rfl, by go_num, HP.out, HL.out⟩
              case measure => simp [intOf]; omega
        · rcases Nat.eq_zero_or_pos j with rfl | hj0
          · have T := Lib.hid (take_none (w := wr) (m := 1 + (p : Int)) (A := Aq) (c := cq) (cl := cl))
            cases cl with
            | false =>
              go_wp2_with fail
              refine (T.out).mono ?_
              rintro e w4 ⟨rfl, K'⟩
              clear T q0 q1 q2
              have q0 := (h.q.below K').c0
              have q1 := (h.q.below K').c1
              have q2 := (h.q.below K').c2
              have f0 := (h.q.below K').fz 0
              have f1 := (h.q.below K').fz 1
              have f2 := (h.q.below K').fz 2
              have qz := (h.q.below K').lt
              go_wp2_with fail
              have KB := below_set3 (Below.then_ K K') hg (.int .i64 (1 + (p : Int))) (.slice Aq 0 cq) (.bool false)
              have h2 := (h.again K').alloc (.cells #[.int .i64 (1 + (p : Int)), .slice Aq 0 cq, .bool false] 24)
              replace KB := KB.alloc KB.size (.cells #[.int .i64 (1 + (p : Int)), .slice Aq 0 cq, .bool false] 24)
              refine (ends_any (n := 0) (cl := false)).mono ?_
              rintro e w5 ⟨rfl, K''⟩
              have h3 := h2.below K''
              have KC := Below.then_ KB K''
              clear h2 KB K'' q0 q1 q2 f0 f1 f2 qz
              go_wp2
              go_roundw
              case rel => exact ⟨k + 1, o, 0, L, Ai, ci, Aq, cq, false, by omega, by omega, by omega, rfl, rfl, rfl, by go_num, h3, KC⟩
              case measure => simp [intOf]; omega
            | true =>
              go_wp2_with fail
              refine (T.out).mono ?_
              rintro e w4 ⟨rfl, K'⟩
              clear T q0 q1 q2
              have q0 := (h.q.below K').c0
              have q1 := (h.q.below K').c1
              have q2 := (h.q.below K').c2
              have f0 := (h.q.below K').fz 0
              have f1 := (h.q.below K').fz 1
              have f2 := (h.q.below K').fz 2
              have qz := (h.q.below K').lt
              go_wp2_with fail
              have KB := below_set3 (Below.then_ K K') hg (.int .i64 (1 + (p : Int))) (.slice Aq 0 cq) (.bool true)
              have h2 := (h.again K').alloc (.cells #[.int .i64 (1 + (p : Int)), .slice Aq 0 cq, .bool true] 24)
              replace KB := KB.alloc KB.size (.cells #[.int .i64 (1 + (p : Int)), .slice Aq 0 cq, .bool true] 24)
              refine (ends_any (n := 0) (cl := true)).mono ?_
              rintro e w5 ⟨rfl, K''⟩
              have h3 := h2.below K''
              have KC := Below.then_ KB K''
              clear h2 KB K'' q0 q1 q2 f0 f1 f2 qz
              go_wp2
              go_roundw
              case rel => exact ⟨k + 1, o, 0, L, Ai, ci, Aq, cq, true, by omega, by omega, by omega, rfl, rfl, rfl, by go_num, h3, KC⟩
              case measure => simp [intOf]; omega
          · obtain ⟨j, rfl⟩ : ∃ j', j = j' + 1 := ⟨j - 1, by omega⟩
            clear hj0
            have hio := Lib.hid (h.inI)
            obtain ⟨ib, io, rfl, hib, hic⟩ := h.inI.get (j := o) (by omega)
            have T := Lib.hid (take_one (m := 1 + (p : Int)) (cl := cl) h.i (by omega))
            have hlo : (o : Int) < (o : Int) + ((j : Int) + 1) := by omega
            have e1 : (gi L o != gi L o) = false := by simp
            clear hio
            cases cl with
            | false =>
              go_wp2_with fail
              refine (T.out).mono ?_
              rintro e w4 ⟨A', c', rfl, I', K'⟩
              clear T q0 q1 q2
              have ic4 := (K'.cell (p := ⟨ib, io + o, none⟩) hib).trans hic
              have ibz : ib < w4.heap.size := Nat.lt_of_lt_of_le hib K'.size
              have q0 := (h.q.below K').c0
              have q1 := (h.q.below K').c1
              have q2 := (h.q.below K').c2
              have f0 := (h.q.below K').fz 0
              have f1 := (h.q.below K').fz 1
              have f2 := (h.q.below K').fz 2
              have qz := (h.q.below K').lt
              go_wp2_with fail
              have KB := below_set3 (Below.then_ K K') hg (.int .i64 (1 + (p : Int))) (.slice A' j c') (.bool false)
              have h2 := (h.store K' I' (show o + (j + 1) = o + 1 + j by omega) false).alloc (.cells #[.int .i64 (1 + (p : Int)), .slice A' j c', .bool false] 24)
              replace KB := KB.alloc KB.size (.cells #[.int .i64 (1 + (p : Int)), .slice A' j c', .bool false] 24)
              refine (ends_any (n := j) (cl := false)).mono ?_
              rintro e w5 ⟨rfl, K''⟩
              have h3 := h2.below K''
              have KC := Below.then_ KB K''
              clear h2 KB K'' q0 q1 q2 f0 f1 f2 qz ic4
              go_wp2
              go_roundw
              case rel => exact ⟨k + 1, o + 1, j, L, some ⟨ib, io, none⟩, ci, A', c', false, by omega, by omega, by omega, by rw [show o + (j + 1) = o + 1 + j by omega], by go_num, rfl, by go_num, h3, KC⟩
              case measure => simp [intOf]; omega
            | true =>
              by_cases hz : j = 0
              · subst hz
                go_wp2_with fail
                refine (T.out).mono ?_
                rintro e w4 ⟨A', c', rfl, I', K'⟩
                clear T q0 q1 q2
                have ic4 := (K'.cell (p := ⟨ib, io + o, none⟩) hib).trans hic
                have ibz : ib < w4.heap.size := Nat.lt_of_lt_of_le hib K'.size
                have q0 := (h.q.below K').c0
                have q1 := (h.q.below K').c1
                have q2 := (h.q.below K').c2
                have f0 := (h.q.below K').fz 0
                have f1 := (h.q.below K').fz 1
                have f2 := (h.q.below K').fz 2
                have qz := (h.q.below K').lt
                go_wp2_with fail
                have KB := below_set3 (Below.then_ K K') hg (.int .i64 (1 + (p : Int))) (.slice A' 0 c') (.bool true)
                have h2 := (h.store K' I' (show o + (0 + 1) = o + 1 + 0 by omega) true).alloc (.cells #[.int .i64 (1 + (p : Int)), .slice A' 0 c', .bool true] 24)
                replace KB := KB.alloc KB.size (.cells #[.int .i64 (1 + (p : Int)), .slice A' 0 c', .bool true] 24)
                refine (ends_any (n := 0) (cl := true)).mono ?_
                rintro e w5 ⟨rfl, K''⟩
                have h3 := h2.below K''
                have KC := Below.then_ KB K''
                clear h2 KB K'' q0 q1 q2 f0 f1 f2 qz ic4
                go_wp2
                go_roundw
                case rel => exact ⟨k + 1, o + 1, 0, L, some ⟨ib, io, none⟩, ci, A', c', true, by omega, by omega, by omega, by rw [show o + (0 + 1) = o + 1 + 0 by omega], by go_num, rfl, by go_num, h3, KC⟩
                case measure => simp [intOf]; omega
              · have ez : (j == 0) = false := by simpa using hz
                have e3 : ((o : Int) + 1 == (o : Int) + ((j : Int) + 1)) = false := by simp; omega
                go_wp2_with fail
                refine (T.out).mono ?_
                rintro e w4 ⟨A', c', rfl, I', K'⟩
                clear T q0 q1 q2
                have ic4 := (K'.cell (p := ⟨ib, io + o, none⟩) hib).trans hic
                have ibz : ib < w4.heap.size := Nat.lt_of_lt_of_le hib K'.size
                have q0 := (h.q.below K').c0
                have q1 := (h.q.below K').c1
                have q2 := (h.q.below K').c2
                have f0 := (h.q.below K').fz 0
                have f1 := (h.q.below K').fz 1
                have f2 := (h.q.below K').fz 2
                have qz := (h.q.below K').lt
                go_wp2_with fail
                have KB := below_set3 (Below.then_ K K') hg (.int .i64 (1 + (p : Int))) (.slice A' j c') (.bool true)
                have h2 := (h.store K' I' (show o + (j + 1) = o + 1 + j by omega) true).alloc (.cells #[.int .i64 (1 + (p : Int)), .slice A' j c', .bool true] 24)
                replace KB := KB.alloc KB.size (.cells #[.int .i64 (1 + (p : Int)), .slice A' j c', .bool true] 24)
                refine (ends_any (n := j) (cl := true)).mono ?_
                rintro e w5 ⟨rfl, K''⟩
                have h3 := h2.below K''
                have KC := Below.then_ KB K''
                clear h2 KB K'' q0 q1 q2 f0 f1 f2 qz ic4
                go_wp2
                go_roundw
                case rel => exact ⟨k + 1, o + 1, j, L, some ⟨ib, io, none⟩, ci, A', c', true, by omega, by omega, by omega, by rw [show o + (j + 1) = o + 1 + j by omega], by go_num, rfl, by go_num, h3, KC⟩
                case measure => simp [intOf]; omega
    · have e : k = len1 := by omega
      subst e
      clear hlt
      have b1 : (0 : Int) ≤ (o : Int) := by omega
      have b2 : (o : Int) ≤ (o : Int) + (j : Int) := by omega
      have hm : mayB (1 + (p : Int)) j = true := by unfold mayB; simp; omega
      have q0 := h.q.c0
      have q1 := h.q.c1
      have q2 := h.q.c2
      have hgz := h.q.lt
      have hcap := h.inI.cap
      rcases h.own.2 with ⟨hv, hz⟩ | ⟨ib, cap, cur, hv, _, hh, _⟩
      · injection hv with hv1 hv2 hv3
        obtain rfl : o = 0 := by omega
        obtain rfl : j = 0 := by omega
        subst hv1; subst hv3
        clear hv2 hz
        go_wp2_with fail
        go_region_held3 (fun w' => w'.cell? ⟨g, 0, none⟩ = some (.int .i64 (1 + (p : Int))) ∧ w'.cell? ⟨g, 1, none⟩ = some (.slice Aq 0 cq) ∧ w'.cell? ⟨g, 2, none⟩ = some (.bool cl) ∧ Below wr.heap.size wr w') (first | exact ⟨q0, q1, q2, (Below.refl _ _).drew⟩ | exact s_step (by assumption) hgz K')
          (first | (go_at_call 17; refine (ints_any (h.i.below (sL (by assumption))) (h.inI.below (sL (by assumption))) (by decide)).mono ?_; rintro e w' ⟨rfl, K'⟩) | (go_at_call 7; refine (may_is hm).mono ?_; rintro e w' ⟨rfl, K'⟩))
        rename_i hS
        go_wp2
        go_ret
        exact ⟨rfl, Below.then_ K hS.2.2.2⟩
      · injection hv with hv1 hv2 hv3
        subst hv1; subst hv3
        clear hv2 hh
        by_cases hc : ci = o
        · subst hc
          obtain rfl : j = 0 := by omega
          have IC := h.inI.cut_eq (d := ci) (by omega)
          rw [show ci + 0 - ci = 0 by omega] at IC
          go_wp2_with fail
          go_region_held3 (fun w' => w'.cell? ⟨g, 0, none⟩ = some (.int .i64 (1 + (p : Int))) ∧ w'.cell? ⟨g, 1, none⟩ = some (.slice Aq 0 cq) ∧ w'.cell? ⟨g, 2, none⟩ = some (.bool cl) ∧ Below wr.heap.size wr w') (first | exact ⟨q0, q1, q2, (Below.refl _ _).drew⟩ | exact s_step (by assumption) hgz K')
            (first | (go_at_call 17; refine (ints_any (h.i.below (sL (by assumption))) (IC.below (sL (by assumption))) (by decide)).mono ?_; rintro e w' ⟨rfl, K'⟩) | (go_at_call 7; refine (may_is hm).mono ?_; rintro e w' ⟨rfl, K'⟩))
          rename_i hS
          go_wp2
          go_ret
          exact ⟨rfl, Below.then_ K hS.2.2.2⟩
        · have IC := h.inI.cut_ne (d := o) (by omega) hc
          rw [Nat.zero_add, Nat.add_sub_cancel_left] at IC
          go_wp2_with fail
          go_region_held3 (fun w' => w'.cell? ⟨g, 0, none⟩ = some (.int .i64 (1 + (p : Int))) ∧ w'.cell? ⟨g, 1, none⟩ = some (.slice Aq j cq) ∧ w'.cell? ⟨g, 2, none⟩ = some (.bool cl) ∧ Below wr.heap.size wr w') (first | exact ⟨q0, q1, q2, (Below.refl _ _).drew⟩ | exact s_step (by assumption) hgz K')
            (first | (go_at_call 17; refine (ints_any (h.i.below (sL (by assumption))) (IC.below (sL (by assumption))) (by omega)).mono ?_; rintro e w' ⟨rfl, K'⟩) | (go_at_call 7; refine (may_is hm).mono ?_; rintro e w' ⟨rfl, K'⟩))
          rename_i hS
          go_wp2
          go_ret
          exact ⟨rfl, Below.then_ K hS.2.2.2⟩
theorem walk (a0 : Int) (a1 : Option Addr) (len1 cap1 : Nat) (z1 : List Int) (w : World) (w0 : (Lit.int .u8 a0).wf = true) (w1 : IsRow .i16 w a1 len1 cap1 z1) :
    Calls Try.prog 4 #[.int .u8 a0, .slice a1 len1 cap1] w fun e w' => e = .returned (.bool true) ∧ Below w.heap.size w w' := by
  obtain ⟨X, rfl, hX⟩ := wf_u8 w0
  by_cases hn : len1 ≤ 300
  · obtain ⟨ds, D, hD⟩ := IS.of_row w1
    exact small X (X % 64) len1 cap1 a1 ds w (by omega) (by omega) hn D hD
  · exact big X len1 cap1 a1 w (by omega)
end Go.Proofs.Ytlaihgcpaiocpaa.queueOrder
