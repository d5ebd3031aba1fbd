/- What leb.read answers: how many groups there are, their lowest 64 bits and the last of them, or why there are none; nothing that was there before is changed. -/
import Derived.Test.YtpigdljibfddlaaLebA
namespace Go.Proofs.Ytpigdljibfddlaa
open Go.RowKit

set_option maxHeartbeats 2000000 in
theorem c21 (s t : ByteArray) (a : Nat) (bits : Int) (w : World) (hs : s.size ≤ 140737488351232) (ha : a ≤ s.size) (hb : bits = 32 ∨ bits = 64) (ht : s.extract a s.size = t) :
    Calls Try.prog 21 #[.string s, .int .i64 a, .int .i64 bits] w fun e w' =>
      e = .returned (rdVal (Leb.bt t) (Leb.grp (Leb.bt t) t.size (Leb.most bits))) ∧ Below w.heap.size w w' := by
  have hway : ((bits != 32) = false) ∨ ((bits != 32) = true ∧ (bits != 64) = false) := by
    simp only [bne_iff_ne, bne_eq_false_iff_eq]
    omega
  have ha0 : decide ((a : Int) < 0) = false := decide_eq_false (by omega)
  have ha1 : decide ((s.size : Int) < (a : Int)) = false := decide_eq_false (by omega)
  have ha2 : decide (s.size < a) = false := decide_eq_false (by omega)
  have hM10 : Leb.most bits ≤ 10 := by rcases hb with rfl | rfl <;> decide
  have HB := hide hb
  have htz : t.size ≤ 140737488351232 := by rw [← ht]; simp [ByteArray.size_extract]; omega
  clear hb
  rcases hway with h1 | ⟨h1, h2⟩
  all_goals
    go_enter Try.func21, Try.ntmps21
    go_wp2_with fail
    refine (c25 _ _).mono ?_
    rintro e w1 ⟨rfl, rfl⟩
    go_wp2
    clear ht
    go_loopw [10] (fun _ wr => ∃ k : Nat, k ≤ Leb.most bits ∧ k ≤ t.size ∧ RdInv w.heap.size w wr t k (Leb.low64 (Leb.val (Leb.bt t) k)) ∧ Leb.grp (Leb.bt t) t.size (Leb.most bits) = Leb.grpF (Leb.bt t) t.size (Leb.most bits - k) k) (fun _ wr => 10 - (intOf ((wr.cell? ⟨w.heap.size + 1 + 1, 0, none⟩).getD (.int .i64 0))).toNat)
    case atStart => exact ⟨0, Nat.zero_le _, Nat.zero_le _, RdInv.start w t, rfl⟩
    case round =>
      obtain ⟨k, hk1, hk2, hinv, hgrp⟩ := hrel
      have HI := hide hinv
      have HG := hide hgrp
      have hcnt : wr.cell? ⟨w.heap.size + 1 + 1 + 1, 1, none⟩ = some (.int .i64 k) := cell_of hinv.rd
      have hcs : wr.cell? ⟨w.heap.size + 1, 0, none⟩ = some (.string t) := cell_of hinv.str
      have hcp : wr.cell? ⟨w.heap.size + 1 + 1, 0, none⟩ = some (.int .i64 k) := cell_of hinv.pos
      have hfp : wr.frozen? ⟨w.heap.size + 1 + 1, 0, none⟩ = false := free_of hinv.pos
      have hco0 : wr.cell? ⟨w.heap.size, 0, none⟩ = some (.int .u64 0) := cell_of hinv.out
      have hco1 : wr.cell? ⟨w.heap.size, 1, none⟩ = some (.int .i64 0) := cell_of hinv.out
      have hco2 : wr.cell? ⟨w.heap.size, 2, none⟩ = some (.int .u8 0) := cell_of hinv.out
      have hfo0 : wr.frozen? ⟨w.heap.size, 0, none⟩ = false := free_of hinv.out
      have hfo1 : wr.frozen? ⟨w.heap.size, 1, none⟩ = false := free_of hinv.out
      have hfo2 : wr.frozen? ⟨w.heap.size, 2, none⟩ = false := free_of hinv.out
      clear hinv hgrp
      by_cases hkM : k < Leb.most bits
      · by_cases hkt : k < t.size
        · have hbd := Leb.bt_bd t k
          have hv9 := Leb.val_9 (Leb.bt t) k (by omega)
          have hst := step_low (Leb.bt t) k (by omega)
          have hlow : wr.cell? ⟨w.heap.size + 1 + 1 + 1, 0, none⟩ = some (.int .u64 (Leb.val (Leb.bt t) k)) := by
            rw [← Leb.low64_in hv9.1 (by omega)]; exact cell_of (unhide HI).rd
          have hfr0 : wr.frozen? ⟨w.heap.size + 1 + 1 + 1, 0, none⟩ = false := free_of (unhide HI).rd
          by_cases hl : Leb.bt t k < 128
          · have HF := hide (rdVal_some ((unhide HG).trans (Leb.grpF_last _ _ _ _ (by omega) hkt hl)) ⟨hbd.1, hl⟩)
            clear hco0 hco1 hco2 hfo0 hfo1 hfo2 HG
            go_wp2_with fail
            go_quiet ((go_at_call 26; exact Calls.quiet_of_same (c26 _ _ (unhide HB))))
            go_wp2_with fail
            refine (c27_on _ _ k t true _ (by omega) (by exact hcs) (by exact hcp) (by exact hfp) hkt (decide_eq_true hl)).mono ?_
            rintro e w2 ⟨rfl, rfl⟩
            go_wp2_with fail
            go_region
            generalize hW2 : World.drew (World.setCell _ _ _) = W2
            have hmid : RdMid w.heap.size w W2 t k (Leb.low64 (Leb.val (Leb.bt t) (k + 1))) := by rw [← hW2, ← hst]; exact (unhide HI).mid _ _
            clear hW2 hlow hcnt hcs hcp hfp hfr0 HI hst
            have hcnt : W2.cell? ⟨w.heap.size + 1 + 1 + 1, 1, none⟩ = some (.int .i64 k) := cell_of hmid.rd
            have hcn0 : W2.cell? ⟨w.heap.size + 1 + 1 + 1, 0, none⟩ = some (.int .u64 (Leb.low64 (Leb.val (Leb.bt t) (k + 1)))) := cell_of hmid.rd
            have hcn2 : W2.cell? ⟨w.heap.size + 1 + 1 + 1, 2, none⟩ = some (.int .u8 0) := cell_of hmid.rd
            have hfr1 : W2.frozen? ⟨w.heap.size + 1 + 1 + 1, 1, none⟩ = false := free_of hmid.rd
            have hfr2 : W2.frozen? ⟨w.heap.size + 1 + 1 + 1, 2, none⟩ = false := free_of hmid.rd
            have hfo0 : W2.frozen? ⟨w.heap.size, 0, none⟩ = false := free_of hmid.out
            have hfo1 : W2.frozen? ⟨w.heap.size, 1, none⟩ = false := free_of hmid.out
            have hfo2 : W2.frozen? ⟨w.heap.size, 2, none⟩ = false := free_of hmid.out
            have hco0 : W2.cell? ⟨w.heap.size, 0, none⟩ = some (.int .u64 0) := cell_of hmid.out
            have hco1 : W2.cell? ⟨w.heap.size, 1, none⟩ = some (.int .i64 0) := cell_of hmid.out
            have hco2 : W2.cell? ⟨w.heap.size, 2, none⟩ = some (.int .u8 0) := cell_of hmid.out
            have HM := hide hmid
            clear hmid
            go_wp2
            exact bodyPost_ret (v := .tuple #[.agg #[.int .u64 (Leb.low64 (Leb.val (Leb.bt t) (k + 1))), .int .i64 ((k : Int) + 1), .int .u8 (Leb.bt t k % 128)], .int .i64 0]) (by simp [results, Try.results21, go_sem, *]) rfl
              ⟨ret_val (unhide HF), bel_set (bel_set (bel_set (bel_set (bel_set (unhide HM).bel (by omega)) (by omega)) (Nat.le_refl _)) (Nat.le_refl _)) (Nat.le_refl _)⟩
          · have HF : Hid (Leb.grp (Leb.bt t) t.size (Leb.most bits) = Leb.grpF (Leb.bt t) t.size (Leb.most bits - (k + 1)) (k + 1)) := (unhide HG).trans (Leb.grpF_on _ _ _ _ (by omega) hkt hl)
            clear hco0 hco1 hco2 hfo0 hfo1 hfo2 HG
            go_wp2_with fail
            go_quiet ((go_at_call 26; exact Calls.quiet_of_same (c26 _ _ (unhide HB))))
            go_wp2_with fail
            refine (c27_on _ _ k t false _ (by omega) (by exact hcs) (by exact hcp) (by exact hfp) hkt (decide_eq_false (by omega))).mono ?_
            rintro e w2 ⟨rfl, rfl⟩
            go_wp2_with fail
            go_region
            generalize hW2 : World.drew (World.setCell _ _ _) = W2
            have hmid : RdMid w.heap.size w W2 t k (Leb.low64 (Leb.val (Leb.bt t) (k + 1))) := by rw [← hW2, ← hst]; exact (unhide HI).mid _ _
            clear hW2 hlow hcnt hcs hcp hfp hfr0 hst
            have hcnt : W2.cell? ⟨w.heap.size + 1 + 1 + 1, 1, none⟩ = some (.int .i64 k) := cell_of hmid.rd
            have hfr1 : W2.frozen? ⟨w.heap.size + 1 + 1 + 1, 1, none⟩ = false := free_of hmid.rd
            have HM := hide hmid
            clear hmid
            go_wp2
            go_roundw
            case rel => exact ⟨k + 1, by omega, by omega, (unhide HM).next, unhide HF⟩
            case measure => exact (unhide HI).lower (unhide HM).next (by omega)
        · have hkt' : k = t.size := by omega
          subst hkt'
          have HF := hide (rdVal_none (f := Leb.bt t) ((unhide HG).trans (Leb.grpF_past _ _ _ _ (by omega))))
          have HM := hide ((unhide HI).bel)
          clear HG
          go_wp2_with fail
          go_quiet ((go_at_call 26; exact Calls.quiet_of_same (c26 _ _ (unhide HB))))
          go_wp2_with fail
          refine (c27_end _ _ t _ (by exact hcs) (by exact hcp)).mono ?_
          rintro e w2 ⟨rfl, rfl⟩
          go_wp2
          exact bodyPost_ret (v := .tuple #[.agg #[.int .u64 0, .int .i64 0, .int .u8 0], .int .i64 10]) (by simp [results, Try.results21, go_sem, *]) rfl
            ⟨ret_val (unhide HF), bel_set (bel_set (bel_set (below_drewN (unhide HM) _) (Nat.le_refl _)) (Nat.le_refl _)) (Nat.le_refl _)⟩
      · have HF := hide (rdVal_none (f := Leb.bt t) ((unhide HG).trans (by rw [show Leb.most bits - k = 0 by omega]; rfl)))
        have HM := hide ((unhide HI).bel)
        clear HG
        go_wp2_with fail
        go_quiet ((go_at_call 26; exact Calls.quiet_of_same (c26 _ _ (unhide HB))))
        go_wp2
        exact bodyPost_ret (v := .tuple #[.agg #[.int .u64 0, .int .i64 0, .int .u8 0], .int .i64 10]) (by simp [results, Try.results21, go_sem, *]) rfl
          ⟨ret_val (unhide HF), bel_set (bel_set (bel_set (below_drewN (unhide HM) _) (Nat.le_refl _)) (Nat.le_refl _)) (Nat.le_refl _)⟩
end Go.Proofs.Ytpigdljibfddlaa
