/- What the document's own readers of numbers answer, and the small parts of the program's: as the plain mathematics says; nothing is changed. -/
import Derived.Test.YtpigdljibfddlaaRows
import Derived.Test.YtpigdljibfddlaaRead
import Derived.Test.YtpigdljibfddlaaBits
import Derived.WalkKit
import Derived.WalkSpells
import Derived.WalkSmall
import Derived.BigQuiet
import Derived.Deep.QuietTactic
namespace Go.Proofs.Ytpigdljibfddlaa
open Go.RowKit

theorem hide {p : Prop} (h : p) : Hid p := h
theorem unhide {p : Prop} (h : Hid p) : p := h
theorem ret_bool {a b : Bool} (h : a = b) : Ending.returned (.bool a) = .returned (.bool b) := by rw [h]
theorem ret_int {k : IntKind} {a b : Int} (h : a = b) : Ending.returned (.int k a) = .returned (.int k b) := by rw [h]

set_option maxHeartbeats 400000 in
theorem c22 (s : ByteArray) (a bits : Int) (w : World) :
    Calls Try.prog 22 #[.string s, .int .i64 a, .int .i64 bits] w fun e w' => e = .returned (.bool (Leb.asks s.size a bits)) ∧ w' = w := by
  go_enter Try.func22, Try.ntmps22
  go_wp2
  all_goals go_ret
  all_goals refine ⟨ret_bool ?_, rfl⟩
  all_goals (unfold Leb.asks; rw [Bool.eq_iff_iff]; simp only [decide_eq_true_eq]; first | omega | (simp; omega))

set_option maxHeartbeats 400000 in
theorem c26 (bits : Int) (w : World) (h : bits = 32 ∨ bits = 64) :
    Calls Try.prog 26 #[.int .i64 bits] w fun e w' => e = .returned (.int .i64 (Leb.most bits)) ∧ w' = w := by
  rcases h with rfl | rfl
  all_goals
    go_enter Try.func26, Try.ntmps26
    go_wp2
    go_ret
    exact ⟨rfl, rfl⟩

set_option maxHeartbeats 1000000 in
theorem c23 (s : ByteArray) (a : Nat) (bits : Int) (w : World) (hs : s.size ≤ 140737488351232) (ha : a ≤ s.size) (h : bits = 32 ∨ bits = 64) :
    Calls Try.prog 23 #[.string s, .int .i64 a, .int .i64 bits] w fun e w' => e = .returned (.int .i64 (Leb.grp (Leb.from_ s a) (s.size - a) (Leb.most bits))) ∧ w' = w := by
  have hg := Leb.get_bt s
  have hm : (bits + 6) / 7 = (Leb.most bits : Int) ∧ Leb.most bits ≤ 10 ∧ 0 ≤ bits ∧ bits ≤ 64 := by rcases h with rfl | rfl <;> decide
  obtain ⟨hm1, hm2, hm3, hm4⟩ := hm
  clear h
  generalize Leb.most bits = M at *
  go_enter Try.func23, Try.ntmps23
  go_wp2
  go_loop [8] (fun i => ∃ k : Nat, k ≤ M ∧ k ≤ s.size - a ∧ i = .int .i64 k ∧ Leb.grp (Leb.from_ s a) (s.size - a) M = Leb.grpF (Leb.from_ s a) (s.size - a) (M - k) k) (fun i => 10 - (intOf i).toNat)
  case atStart => exact ⟨0, by omega, by omega, rfl, rfl⟩
  case round =>
    obtain ⟨k, hk, hk2, rfl, hgr⟩ := hrel
    have HG : Hid (Leb.grp (Leb.from_ s a) (s.size - a) M = Leb.grpF (Leb.from_ s a) (s.size - a) (M - k) k) := hgr
    clear hgr
    by_cases h1 : k < M
    · by_cases h2 : a + k < s.size
      · have hf : Leb.from_ s a k = Leb.bt s (a + k) := rfl
        have hbd := Leb.bt_bd s (a + k)
        by_cases h3 : Leb.bt s (a + k) < 128
        · have hfin : Leb.grp (Leb.from_ s a) (s.size - a) M = k + 1 := by rw [HG.out]; exact Leb.grpF_last _ _ _ _ (by omega) (by omega) h3
          clear HG hf
          go_wp2
          go_ret
          exact ⟨rfl, rfl⟩
        · have hfin : Leb.grp (Leb.from_ s a) (s.size - a) M = Leb.grpF (Leb.from_ s a) (s.size - a) (M - (k + 1)) (k + 1) := by rw [HG.out]; exact Leb.grpF_on _ _ _ _ (by omega) (by omega) h3
          have HF : Hid (Leb.grp (Leb.from_ s a) (s.size - a) M = Leb.grpF (Leb.from_ s a) (s.size - a) (M - (k + 1)) (k + 1)) := hfin
          clear HG hf hfin
          go_wp2
          go_round
          case rel => exact ⟨k + 1, by omega, by omega, by go_num, HF.out⟩
          case measure => simp [intOf]; omega
      · have hfin : Leb.grp (Leb.from_ s a) (s.size - a) M = 0 := by rw [HG.out]; exact Leb.grpF_past _ _ _ _ (by omega)
        clear HG
        go_wp2
        go_ret
        exact ⟨rfl, rfl⟩
    · have hfin : Leb.grp (Leb.from_ s a) (s.size - a) M = 0 := by rw [HG.out, show M - k = 0 by omega]; rfl
      clear HG
      go_wp2
      go_ret
      exact ⟨rfl, rfl⟩

theorem start_eq {f : Nat → Int} {k : Nat} {V : Int} (h : Leb.val f k = V) : Leb.val f k + 128 ^ k * 0 = V := by rw [Int.mul_zero, Int.add_zero]; exact h
theorem step_u64 (N b : Int) : bits .or .u64 (IntKind.u64.wrap (Leb.low64 N * 128)) (b % 128) = Leb.low64 (N * 128 + b % 128) := by
  have hb : 0 ≤ b % 128 ∧ b % 128 < 128 := by omega
  have e : IntKind.u64.wrap (Leb.low64 N * 128) = Leb.low64 (Leb.low64 N * 128) := by rw [IntKind.wrap_u64]; rfl
  have h1 := Leb.low64_bd (Leb.low64 N * 128)
  rw [e, Leb.or_u64 7 _ _ h1.1 h1.2 (Leb.low64_128 _) hb.1 (by simpa using hb.2) (by omega)]
  exact Leb.low64_up N _ hb.1 hb.2
theorem three_ret {k : IntKind} {a b c a' b' c' : Int} (h : (a, b, c) = (a', b', c')) : Ending.returned (.tuple #[.int k a, .int .i64 b, .int .i64 c]) = .returned (.tuple #[.int k a', .int .i64 b', .int .i64 c']) := by
  simp only [Prod.mk.injEq] at h
  rw [h.1, h.2.1, h.2.2]

set_option maxHeartbeats 1000000 in
theorem c15 (s : ByteArray) (a bits : Int) (w : World) (hs : s.size ≤ 140737488351232) :
    Calls Try.prog 15 #[.string s, .int .i64 a, .int .i64 bits] w fun e w' =>
      e = .returned (.tuple #[.int .u64 (Leb.uRead s a bits).1, .int .i64 (Leb.uRead s a bits).2.1, .int .i64 (Leb.uRead s a bits).2.2]) ∧ w' = w := by
  by_cases hask : Leb.asks s.size a bits = true
  · have hq := Leb.asks_yes hask
    obtain ⟨hbits, ha0, ha1⟩ := hq
    obtain ⟨a, rfl⟩ := Int.eq_ofNat_of_zero_le ha0
    have hread : Leb.uRead s a bits = Leb.uFin (Leb.from_ s a) (Leb.grp (Leb.from_ s a) (s.size - a) (Leb.most bits)) a bits := by unfold Leb.uRead; rw [if_pos hask, Int.toNat_natCast]; rfl
    rw [hread]
    have hg := Leb.get_bt s
    have ha : a ≤ s.size := by omega
    have HASK : Hid (Leb.asks s.size a bits = true) := hask
    have hks := Leb.grp_some (Leb.from_ s a) (s.size - a) (Leb.most bits)
    have hc23 := c23 s a bits w hs ha hbits
    clear hread ha0 ha1 hask
    generalize Leb.grp (Leb.from_ s a) (s.size - a) (Leb.most bits) = k at *
    have hC := hide hc23
    clear hc23
    by_cases hbad : k = 0 ∨ (bits = 32 ∧ 4294967295 < Leb.val (Leb.from_ s a) k) ∨ (k = 10 ∧ 1 < Leb.from_ s a 9)
    · have hfin : Leb.uFin (Leb.from_ s a) k a bits = (0, 0, 10) := by unfold Leb.uFin; rw [if_pos hbad]
      rw [hfin]
      have hway : k = 0 ∨ (bits = 32 ∧ k = 5 ∧ 15 < Leb.bt s (a + 4) ∧ a + 4 < s.size) ∨ (bits = 64 ∧ k = 10 ∧ 1 < Leb.bt s (a + 9) ∧ a + 9 < s.size) := by
        by_cases hk0 : k = 0
        · exact .inl hk0
        · obtain ⟨k1, k2, k3, k4, k5⟩ := hks hk0
          rcases hbad with h | ⟨rfl, h⟩ | ⟨rfl, h⟩
          · exact .inl h
          · have hm : k ≤ 5 := k2
            have hk : k = 5 := by
              rcases Nat.lt_or_ge k 5 with h' | h'
              · have := Leb.val_5 (Leb.from_ s a) k (by omega); omega
              · omega
            subst hk
            have hbd := Leb.from_bd s a 4
            exact .inr (.inl ⟨rfl, rfl, (Leb.val_four _ hbd.1 k4).1 h, by omega⟩)
          · rcases hbits with rfl | rfl
            · exact absurd k2 (by decide)
            · exact .inr (.inr ⟨rfl, rfl, h, by omega⟩)
      clear hbad hfin hks hbits
      rcases hway with rfl | ⟨rfl, rfl, h1, h2⟩ | ⟨rfl, rfl, h1, h2⟩
      all_goals
        go_enter Try.func15, Try.ntmps15
        go_wp2_with fail
        refine (c22 _ _ _ _).mono ?_
        rintro e w' ⟨rfl, rfl⟩
        rw [HASK.out]
        go_wp2_with fail
        refine (unhide hC).mono ?_
        rintro e w' ⟨rfl, rfl⟩
        go_wp2
        go_ret3
        exact ⟨rfl, rfl⟩
    · have hfin : Leb.uFin (Leb.from_ s a) k a bits = (Leb.val (Leb.from_ s a) k, (a : Int) + (k : Int), 0) := by unfold Leb.uFin; rw [if_neg hbad]
      rw [hfin]
      have hk0 : k ≠ 0 := fun h => hbad (.inl h)
      obtain ⟨k1, k2, k3, k4, k5⟩ := hks hk0
      have hsum : (a : Int) + k ≤ s.size := by omega
      have hk10 : k ≤ 10 := by rcases hbits with rfl | rfl <;> exact Nat.le_trans k2 (by decide)
      have hv : Leb.val (Leb.from_ s a) k ≤ 18446744073709551615 := by
        by_cases h10 : k = 10
        · subst h10
          have hbd := Leb.from_bd s a 9
          exact Leb.val_nine _ hbd.1 (by have := fun h => hbad (.inr (.inr ⟨rfl, h⟩)); omega)
        · have := Leb.val_9 (Leb.from_ s a) k (by omega); omega
      have hway : (bits = 32 ∧ ((k = 5 ∧ Leb.bt s (a + 4) ≤ 15 ∧ a + 4 < s.size) ∨ k < 5)) ∨ (bits = 64 ∧ (k = 5 ∨ (k = 10 ∧ Leb.bt s (a + 9) ≤ 1 ∧ a + 9 < s.size) ∨ ((k : Int) ≠ 5 ∧ (k : Int) ≠ 10))) := by
        rcases hbits with rfl | rfl
        · have hm : k ≤ 5 := k2
          by_cases h5 : k = 5
          · subst h5
            have hbd := Leb.from_bd s a 4
            have h4 : ¬ 15 < Leb.from_ s a 4 := fun h => hbad (.inr (.inl ⟨rfl, (Leb.val_four _ hbd.1 k4).2 h⟩))
            exact .inl ⟨rfl, .inl ⟨rfl, by have : Leb.from_ s a 4 = Leb.bt s (a + 4) := rfl
                                           omega, by omega⟩⟩
          · exact .inl ⟨rfl, .inr (by omega)⟩
        · by_cases h5 : k = 5
          · exact .inr ⟨rfl, .inl h5⟩
          · by_cases h10 : k = 10
            · have h9 : ¬ 1 < Leb.from_ s a 9 := fun h => hbad (.inr (.inr ⟨h10, h⟩))
              exact .inr ⟨rfl, .inr (.inl ⟨h10, by have : Leb.from_ s a 9 = Leb.bt s (a + 9) := rfl
                                                   omega, by omega⟩)⟩
            · exact .inr ⟨rfl, .inr (.inr (by omega))⟩
      clear hbad hfin hks hbits k2 k4 k5
      have hk0' : ((k : Int) == 0) = false := by simp; omega
      have hv0 := (Leb.val_bd (Leb.from_ s a) k).1
      generalize hV : Leb.val (Leb.from_ s a) k = V at *
      have HV := hide hV
      clear hV
      have hway' : (bits = 32 ∧ ((k = 5 ∧ decide (15 < Leb.bt s (a + 4)) = false ∧ a + 4 < s.size) ∨ (((k : Int) == 5) = false ∧ ((k : Int) == 10) = false))) ∨ (bits = 64 ∧ (k = 5 ∨ (k = 10 ∧ decide (1 < Leb.bt s (a + 9)) = false ∧ a + 9 < s.size) ∨ (((k : Int) == 5) = false ∧ ((k : Int) == 10) = false))) := by
        simp only [decide_eq_false_iff_not, beq_eq_false_iff_ne]
        omega
      clear hway hk0
      rcases hway' with ⟨rfl, ⟨rfl, h1, h2⟩ | ⟨h1, h2⟩⟩ | ⟨rfl, rfl | ⟨rfl, h1, h2⟩ | ⟨h1, h2⟩⟩
      all_goals
        go_enter Try.func15, Try.ntmps15
        go_wp2_with fail
        refine (c22 _ _ _ _).mono ?_
        rintro e w' ⟨rfl, rfl⟩
        rw [HASK.out]
        go_wp2_with fail
        refine (unhide hC).mono ?_
        rintro e w' ⟨rfl, rfl⟩
        go_wp2
        go_loop [10, 11] (fun x i => ∃ (j : Nat) (N : Int), a + j ≤ s.size ∧ j ≤ 10 ∧ i = .int .i64 ((j : Int) - 1) ∧ x = .int .u64 (Leb.low64 N) ∧ Leb.val (Leb.from_ s a) j + 128 ^ j * N = V) (fun _ i => (intOf i + 1).toNat)
        case atStart =>
          refine ⟨_, 0, ?_, ?_, ?_, rfl, start_eq (unhide HV)⟩
          · omega
          · omega
          · go_num
        case round =>
          obtain ⟨j, N, hj1, hj2, rfl, rfl, hN⟩ := hrel
          have HN := hide hN
          clear hN
          by_cases hj : j = 0
          · subst hj
            have HN0 := (unhide HN)
            simp only [Leb.val, Int.pow_zero, Int.one_mul, Int.zero_add] at HN0
            subst HN0
            clear HN
            go_wp2
            go_ret3
            exact ⟨three_ret (by rw [Leb.low64_in hv0 hv]), rfl⟩
          · obtain ⟨j, rfl⟩ : ∃ j', j = j' + 1 := ⟨j - 1, by omega⟩
            have hbd := Leb.bt_bd s (a + j)
            have hmk := Leb.and127_u8 _ hbd.1 hbd.2
            have hlow := Leb.low64_bd N
            go_wp2
            go_round
            case rel => exact ⟨j, N * 128 + Leb.bt s (a + j) % 128, by omega, by omega, rfl, by rw [step_u64], (Leb.val_split (Leb.from_ s a) j N).symm.trans (unhide HN)⟩
            case measure => simp [intOf]
  · have hask' : Leb.asks s.size a bits = false := by simpa using hask
    have hread : Leb.uRead s a bits = (0, 0, 1) := by unfold Leb.uRead; rw [hask']; rfl
    rw [hread]
    clear hread hask
    go_enter Try.func15, Try.ntmps15
    go_wp2_with fail
    refine (c22 _ _ _ _).mono ?_
    rintro e w' ⟨rfl, rfl⟩
    go_wp2
    go_ret3
    exact ⟨rfl, rfl⟩
end Go.Proofs.Ytpigdljibfddlaa
