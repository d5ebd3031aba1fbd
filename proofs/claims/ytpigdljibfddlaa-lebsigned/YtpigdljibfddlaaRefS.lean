/- What the document's own reader of numbers with sign answers: as the plain mathematics says; nothing is changed. -/
import Derived.Test.YtpigdljibfddlaaRefs
namespace Go.Proofs.Ytpigdljibfddlaa
open Go.RowKit

theorem step_i64 (N b : Int) : bits .or .i64 (wrap64 (Leb.s64 N * 128)) (b % 128) = Leb.s64 (N * 128 + b % 128) := by
  have hb : 0 ≤ b % 128 ∧ b % 128 < 128 := by omega
  have e : wrap64 (Leb.s64 N * 128) = Leb.s64 (Leb.s64 N * 128) := by unfold wrap64 Leb.s64; rfl
  have h1 := Leb.s64_bd (Leb.s64 N * 128)
  rw [e, Leb.or_i64 _ _ h1.1 h1.2 (Leb.s64_128 _) hb.1 hb.2]
  exact Leb.s64_up N _ hb.1 hb.2

set_option maxHeartbeats 1000000 in
theorem c17 (s : ByteArray) (a bits : Int) (w : World) (hs : s.size ≤ 140737488351232) :
    Calls Try.prog 17 #[.string s, .int .i64 a, .int .i64 bits] w fun e w' =>
      e = .returned (.tuple #[.int .i64 (Leb.sRead s a bits).1, .int .i64 (Leb.sRead s a bits).2.1, .int .i64 (Leb.sRead s a bits).2.2]) ∧ w' = w := by
  by_cases hask : Leb.asks s.size a bits = true
  · have hq := Leb.asks_yes hask
    obtain ⟨hbits, ha0, ha1⟩ := hq
    obtain ⟨a, rfl⟩ := Int.eq_ofNat_of_zero_le ha0
    have hread : Leb.sRead s a bits = Leb.sFin (Leb.from_ s a) (Leb.grp (Leb.from_ s a) (s.size - a) (Leb.most bits)) a bits := by unfold Leb.sRead; rw [if_pos hask, Int.toNat_natCast]; rfl
    rw [hread]
    have hg := Leb.get_bt s
    have ha : a ≤ s.size := by omega
    have HASK : Hid (Leb.asks s.size a bits = true) := hask
    have hks := Leb.grp_some (Leb.from_ s a) (s.size - a) (Leb.most bits)
    have hc23 := c23 s a bits w hs ha hbits
    clear hread ha0 ha1 hask
    generalize Leb.grp (Leb.from_ s a) (s.size - a) (Leb.most bits) = k at *
    have hC := hide hc23
    clear hc23
    by_cases hbad : k = 0 ∨ (k = 10 ∧ Leb.from_ s a 9 ≠ 0 ∧ Leb.from_ s a 9 ≠ 127)
    · have hfin : Leb.sFin (Leb.from_ s a) k a bits = (0, 0, 10) := by
        unfold Leb.sFin
        rcases hbad with h | h
        · rw [if_pos (.inl h)]
        · rw [if_pos (.inr (.inr h))]
      rw [hfin]
      have hway : k = 0 ∨ (bits = 64 ∧ k = 10 ∧ (Leb.bt s (a + 9) != 0) = true ∧ (Leb.bt s (a + 9) != 127) = true ∧ a + 9 < s.size) := by
        by_cases hk0 : k = 0
        · exact .inl hk0
        · obtain ⟨k1, k2, k3, k4, k5⟩ := hks hk0
          rcases hbad with h | ⟨rfl, h, h'⟩
          · exact .inl h
          · rcases hbits with rfl | rfl
            · exact absurd k2 (by decide)
            · exact .inr ⟨rfl, rfl, bne_iff_ne.2 h, bne_iff_ne.2 h', by omega⟩
      clear hbad hfin hks hbits
      rcases hway with rfl | ⟨rfl, rfl, h1, h1', h2⟩
      all_goals
        go_enter Try.func17, Try.ntmps17
        go_wp2_with fail
        refine (c22 _ _ _ _).mono ?_
        rintro e w' ⟨rfl, rfl⟩
        rw [HASK.out]
        go_wp2_with fail
        refine (unhide hC).mono ?_
        rintro e w' ⟨rfl, rfl⟩
        go_wp2
        go_ret3
        exact ⟨rfl, rfl⟩
    · have hk0 : k ≠ 0 := fun h => hbad (.inl h)
      obtain ⟨k1, k2, k3, k4, k5⟩ := hks hk0
      have hsum : (a : Int) + k ≤ s.size := by omega
      have hk10 : k ≤ 10 := by rcases hbits with rfl | rfl <;> exact Nat.le_trans k2 (by decide)
      have hbd9 := Leb.from_bd s a 9
      have hbdk := Leb.from_bd s a (k - 1)
      have h9 : k ≤ 9 ∨ (k = 10 ∧ (Leb.from_ s a 9 = 0 ∨ Leb.from_ s a 9 = 127)) := by
        by_cases h : k = 10
        · by_cases h' : Leb.from_ s a 9 = 0
          · exact .inr ⟨h, .inl h'⟩
          · by_cases h'' : Leb.from_ s a 9 = 127
            · exact .inr ⟨h, .inr h''⟩
            · exact absurd (.inr ⟨h, h', h''⟩) hbad
        · exact .inl (by omega)
      have hv := Leb.sval_bd (Leb.from_ s a) k k1 h9
      have hway' : (((k : Int) == 10) = false) ∨ (bits = 64 ∧ (k = 10 ∧ (Leb.bt s (a + 9) != 0) = false ∧ a + 9 < s.size)) ∨ (bits = 64 ∧ (k = 10 ∧ (Leb.bt s (a + 9) != 0) = true ∧ (Leb.bt s (a + 9) != 127) = false ∧ a + 9 < s.size)) := by
        simp only [beq_eq_false_iff_ne, bne_eq_false_iff_eq, bne_iff_ne]
        have e : Leb.from_ s a 9 = Leb.bt s (a + 9) := rfl
        rw [e] at h9
        rcases hbits with rfl | rfl
        · have hm : k ≤ 5 := k2
          omega
        · omega
      have hk0' : ((k : Int) == 0) = false := by simp; omega
      have hfin : Leb.sFin (Leb.from_ s a) k a bits = if bits = 32 ∧ (Leb.sval (Leb.from_ s a) k < -2147483648 ∨ 2147483647 < Leb.sval (Leb.from_ s a) k) then (0, 0, 10) else (Leb.sval (Leb.from_ s a) k, (a : Int) + (k : Int), 0) := by
        unfold Leb.sFin
        by_cases h : bits = 32 ∧ (Leb.sval (Leb.from_ s a) k < -2147483648 ∨ 2147483647 < Leb.sval (Leb.from_ s a) k)
        · rw [if_pos h, if_pos (.inr (.inl h))]
        · rw [if_neg h, if_neg (by intro h'; rcases h' with h' | h' | h'
                                   · exact hbad (.inl h')
                                   · exact h h'
                                   · exact hbad (.inr h'))]
      rw [hfin]
      have hsg : (Go.bits .and .u8 (Leb.bt s (a + k - 1)) 64 != 0) = decide (64 ≤ Leb.from_ s a (k - 1) % 128) := by
        have e : Leb.from_ s a (k - 1) = Leb.bt s (a + k - 1) := by unfold Leb.from_; rw [show a + (k - 1) = a + k - 1 by omega]
        rw [← e, Leb.and64_u8 _ hbdk.1 hbdk.2]
        by_cases h : 64 ≤ Leb.from_ s a (k - 1) % 128
        · rw [if_pos h, decide_eq_true h]; decide
        · rw [if_neg h, decide_eq_false h]; decide
      have hsv : Leb.sval (Leb.from_ s a) k = Leb.val (Leb.from_ s a) k + 128 ^ k * (if 64 ≤ Leb.from_ s a (k - 1) % 128 then -1 else 0) := rfl
      generalize Leb.sval (Leb.from_ s a) k = V at *
      generalize hR : (if bits = 32 ∧ (V < -2147483648 ∨ 2147483647 < V) then ((0, 0, 10) : Int × Int × Int) else (V, (a : Int) + (k : Int), 0)) = R
      have HR := hide hR
      have hlt : a + k - 1 < s.size := by omega
      clear hbad hfin hks k2 k4 k5 hbd9 hbdk hk0 h9 hR
      by_cases hsgn : 64 ≤ Leb.from_ s a (k - 1) % 128
      · rw [if_pos hsgn] at hsv
        rw [decide_eq_true hsgn] at hsg
        have HV := hide hsv.symm
        clear hsv hsgn
        rcases hway' with h1 | ⟨rfl, rfl, h1, h2⟩ | ⟨rfl, rfl, h1, h1', h2⟩
        all_goals try change (Go.bits .and .u8 (Leb.bt s (a + 9)) 64 != 0) = _ at hsg
        all_goals
          go_enter Try.func17, Try.ntmps17
          go_wp2_with fail
          refine (c22 _ _ _ _).mono ?_
          rintro e w' ⟨rfl, rfl⟩
          rw [HASK.out]
          go_wp2_with fail
          refine (unhide hC).mono ?_
          rintro e w' ⟨rfl, rfl⟩
          go_wp2
          go_loop [10, 11] (fun x i => ∃ (j : Nat) (N : Int), a + j ≤ s.size ∧ j ≤ 10 ∧ i = .int .i64 ((j : Int) - 1) ∧ x = .int .i64 (Leb.s64 N) ∧ Leb.val (Leb.from_ s a) j + 128 ^ j * N = V) (fun _ i => (intOf i + 1).toNat)
          case atStart =>
            refine ⟨_, -1, ?_, ?_, ?_, rfl, unhide HV⟩
            · omega
            · omega
            · go_num
          case round =>
            obtain ⟨j, N, hj1, hj2, rfl, rfl, hN⟩ := hrel
            have HN := hide hN
            clear hN
            by_cases hj : j = 0
            · subst hj
              have HN0 := (unhide HN)
              simp only [Leb.val, Int.pow_zero, Int.one_mul, Int.zero_add] at HN0
              subst HN0
              have hV := Leb.s64_in hv.1 hv.2
              clear HN
              go_wp2
              all_goals go_ret3
              all_goals refine ⟨three_ret ?_, rfl⟩
              all_goals (rw [← unhide HR]; first | rw [if_pos (by omega)] | rw [if_neg (by omega)])
              all_goals rfl
            · obtain ⟨j, rfl⟩ : ∃ j', j = j' + 1 := ⟨j - 1, by omega⟩
              have hbd := Leb.bt_bd s (a + j)
              have hmk := Leb.and127_u8 _ hbd.1 hbd.2
              have hlow := Leb.s64_bd N
              go_wp2
              go_round
              case rel => exact ⟨j, N * 128 + Leb.bt s (a + j) % 128, by omega, by omega, rfl, by rw [step_i64], (Leb.val_split (Leb.from_ s a) j N).symm.trans (unhide HN)⟩
              case measure => simp [intOf]
      · rw [if_neg hsgn] at hsv
        rw [decide_eq_false hsgn] at hsg
        have HV := hide hsv.symm
        clear hsv hsgn
        rcases hway' with h1 | ⟨rfl, rfl, h1, h2⟩ | ⟨rfl, rfl, h1, h1', h2⟩
        all_goals try change (Go.bits .and .u8 (Leb.bt s (a + 9)) 64 != 0) = _ at hsg
        all_goals
          go_enter Try.func17, Try.ntmps17
          go_wp2_with fail
          refine (c22 _ _ _ _).mono ?_
          rintro e w' ⟨rfl, rfl⟩
          rw [HASK.out]
          go_wp2_with fail
          refine (unhide hC).mono ?_
          rintro e w' ⟨rfl, rfl⟩
          go_wp2
          go_loop [10, 11] (fun x i => ∃ (j : Nat) (N : Int), a + j ≤ s.size ∧ j ≤ 10 ∧ i = .int .i64 ((j : Int) - 1) ∧ x = .int .i64 (Leb.s64 N) ∧ Leb.val (Leb.from_ s a) j + 128 ^ j * N = V) (fun _ i => (intOf i + 1).toNat)
          case atStart =>
            refine ⟨_, 0, ?_, ?_, ?_, rfl, unhide HV⟩
            · omega
            · omega
            · go_num
          case round =>
            obtain ⟨j, N, hj1, hj2, rfl, rfl, hN⟩ := hrel
            have HN := hide hN
            clear hN
            by_cases hj : j = 0
            · subst hj
              have HN0 := (unhide HN)
              simp only [Leb.val, Int.pow_zero, Int.one_mul, Int.zero_add] at HN0
              subst HN0
              have hV := Leb.s64_in hv.1 hv.2
              clear HN
              go_wp2
              all_goals go_ret3
              all_goals refine ⟨three_ret ?_, rfl⟩
              all_goals (rw [← unhide HR]; first | rw [if_pos (by omega)] | rw [if_neg (by omega)])
              all_goals rfl
            · obtain ⟨j, rfl⟩ : ∃ j', j = j' + 1 := ⟨j - 1, by omega⟩
              have hbd := Leb.bt_bd s (a + j)
              have hmk := Leb.and127_u8 _ hbd.1 hbd.2
              have hlow := Leb.s64_bd N
              go_wp2
              go_round
              case rel => exact ⟨j, N * 128 + Leb.bt s (a + j) % 128, by omega, by omega, rfl, by rw [step_i64], (Leb.val_split (Leb.from_ s a) j N).symm.trans (unhide HN)⟩
              case measure => simp [intOf]
  · have hask' : Leb.asks s.size a bits = false := by simpa using hask
    have hread : Leb.sRead s a bits = (0, 0, 1) := by unfold Leb.sRead; rw [hask']; rfl
    rw [hread]
    clear hread hask
    go_enter Try.func17, Try.ntmps17
    go_wp2_with fail
    refine (c22 _ _ _ _).mono ?_
    rintro e w' ⟨rfl, rfl⟩
    go_wp2
    go_ret3
    exact ⟨rfl, rfl⟩
end Go.Proofs.Ytpigdljibfddlaa
