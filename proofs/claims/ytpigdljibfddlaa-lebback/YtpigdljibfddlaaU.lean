/- What leb.U answers: for every string, place and width what the plain mathematics says; nothing that was there before is changed. -/
import Derived.Test.YtpigdljibfddlaaLeb
namespace Go.Proofs.Ytpigdljibfddlaa
open Go.RowKit

theorem rdVal_pos {f : Nat → Int} {k : Nat} (h : k ≠ 0) : rdVal f k = .tuple #[.agg #[.int .u64 (Leb.low64 (Leb.val f k)), .int .i64 k, .int .u8 (f (k - 1))], .int .i64 0] := by unfold rdVal; rw [if_neg h]

theorem bt_from (s : ByteArray) (a : Nat) (ha : a ≤ s.size) : Leb.bt (s.extract a s.size) = Leb.from_ s a := funext fun i => bt_extract s a i ha

/-- leb.read, in the words of the reader's specification. -/
theorem c21' (s : ByteArray) (a : Nat) (bits : Int) (w : World) (hs : s.size ≤ 140737488351232) (ha : a ≤ s.size) (hb : bits = 32 ∨ bits = 64) :
    Calls Try.prog 21 #[.string s, .int .i64 a, .int .i64 bits] w fun e w' =>
      e = .returned (rdVal (Leb.from_ s a) (Leb.grp (Leb.from_ s a) (s.size - a) (Leb.most bits))) ∧ Below w.heap.size w w' := by
  have h := c21 s _ a bits w hs ha hb rfl
  rw [bt_from s a ha, show (s.extract a s.size).size = s.size - a by simp [ByteArray.size_extract]] at h
  exact h

set_option maxHeartbeats 1000000 in
theorem c14 (s : ByteArray) (a bits : Int) (w : World) (hs : s.size ≤ 140737488351232) :
    Calls Try.prog 14 #[.string s, .int .i64 a, .int .i64 bits] w fun e w' =>
      e = .returned (.tuple #[.int .u64 (Leb.uRead s a bits).1, .int .i64 (Leb.uRead s a bits).2.1, .int .i64 (Leb.uRead s a bits).2.2]) ∧ Below w.heap.size w w' := by
  by_cases hask : Leb.asks s.size a bits = true
  · have hq := Leb.asks_yes hask
    obtain ⟨hbits, ha0, ha1⟩ := hq
    obtain ⟨a, rfl⟩ := Int.eq_ofNat_of_zero_le ha0
    have hread : Leb.uRead s a bits = Leb.uFin (Leb.from_ s a) (Leb.grp (Leb.from_ s a) (s.size - a) (Leb.most bits)) a bits := by unfold Leb.uRead; rw [if_pos hask, Int.toNat_natCast]; rfl
    rw [hread]
    have ha : a ≤ s.size := by omega
    have hks := Leb.grp_some (Leb.from_ s a) (s.size - a) (Leb.most bits)
    have hc := c21' s a bits w hs ha hbits
    clear hread ha0 ha1 hask
    generalize Leb.grp (Leb.from_ s a) (s.size - a) (Leb.most bits) = k at *
    by_cases hk0 : k = 0
    · have hfin : Leb.uFin (Leb.from_ s a) k a bits = (0, 0, 10) := by unfold Leb.uFin; rw [if_pos (.inl hk0)]
      rw [hfin]
      rw [rdVal_none hk0] at hc
      have hC := hide hc
      clear hc hfin hks hk0
      go_enter Try.func14, Try.ntmps14
      go_wp2_with fail
      refine (unhide hC).mono ?_
      rintro e w1 ⟨rfl, hbel⟩
      go_wp2
      go_ret3
      exact ⟨rfl, hbel.alloc hbel.size _⟩
    · rw [rdVal_pos hk0] at hc
      have hC := hide hc
      obtain ⟨k1, k2, k3, k4, k5⟩ := hks hk0
      have hbd := Leb.from_bd s a (k - 1)
      have hsum : (a : Int) + k ≤ s.size := by omega
      have hk10 : k ≤ 10 := by rcases hbits with rfl | rfl <;> exact Nat.le_trans k2 (by decide)
      generalize hR : Leb.uFin (Leb.from_ s a) k a bits = R
      have hl := Leb.low64_bd (Leb.val (Leb.from_ s a) k)
      have hR0 : (bits = 32 ∧ 4294967295 < Leb.low64 (Leb.val (Leb.from_ s a) k)) ∨ (bits = 64 ∧ k = 10 ∧ 1 < Leb.from_ s a (k - 1)) → R = (0, 0, 10) := by
        intro h
        rw [← hR]
        unfold Leb.uFin
        rcases h with ⟨rfl, h⟩ | ⟨rfl, rfl, h⟩
        · have hm : k ≤ 5 := k2
          have hv := Leb.val_9 (Leb.from_ s a) k (by omega)
          rw [Leb.low64_in hv.1 (by omega)] at h
          rw [if_pos (.inr (.inl ⟨rfl, h⟩))]
        · rw [if_pos (.inr (.inr ⟨rfl, h⟩))]
      have hR1 : ¬ ((bits = 32 ∧ 4294967295 < Leb.low64 (Leb.val (Leb.from_ s a) k)) ∨ (k = 10 ∧ 1 < Leb.from_ s a (k - 1))) → R = (Leb.low64 (Leb.val (Leb.from_ s a) k), (a : Int) + (k : Int), 0) := by
        intro h
        rw [← hR]
        unfold Leb.uFin
        have hv : Leb.low64 (Leb.val (Leb.from_ s a) k) = Leb.val (Leb.from_ s a) k := by
          by_cases h10 : k = 10
          · subst h10
            have h9 : ¬ 1 < Leb.from_ s a 9 := fun h' => h (.inr ⟨rfl, h'⟩)
            have hv9 := Leb.val_nine (Leb.from_ s a) hbd.1 (by omega)
            exact Leb.low64_in (Leb.val_bd _ _).1 hv9
          · have hv := Leb.val_9 (Leb.from_ s a) k (by omega)
            exact Leb.low64_in hv.1 (by omega)
        rw [hv] at h ⊢
        rw [if_neg]
        rintro (h' | ⟨h1, h2⟩ | ⟨rfl, h2⟩)
        · exact hk0 h'
        · exact h (.inl ⟨h1, h2⟩)
        · exact h (.inr ⟨rfl, h2⟩)
      generalize Leb.low64 (Leb.val (Leb.from_ s a) k) = l at *
      generalize Leb.from_ s a (k - 1) = d at *
      have hk32 : bits = 32 → k ≤ 5 := by rintro rfl; exact k2
      have hway : (bits = 32 ∧ 4294967295 < l ∧ Hid (R = (0, 0, 10))) ∨ (bits = 32 ∧ l ≤ 4294967295 ∧ ((k : Int) == 10) = false ∧ Hid (R = (l, (a : Int) + (k : Int), 0))) ∨
          (bits = 64 ∧ ((k : Int) == 10) = false ∧ Hid (R = (l, (a : Int) + (k : Int), 0))) ∨ (bits = 64 ∧ k = 10 ∧ 1 < d ∧ Hid (R = (0, 0, 10))) ∨ (bits = 64 ∧ k = 10 ∧ d ≤ 1 ∧ Hid (R = (l, (a : Int) + (k : Int), 0))) := by
        simp only [beq_eq_false_iff_ne]
        rcases hbits with rfl | rfl
        · have := hk32 rfl
          by_cases h : 4294967295 < l
          · exact .inl ⟨rfl, h, hR0 (by omega)⟩
          · exact .inr (.inl ⟨rfl, by omega, by omega, hR1 (by omega)⟩)
        · by_cases h : k = 10
          · by_cases h' : 1 < d
            · exact .inr (.inr (.inr (.inl ⟨rfl, h, h', hR0 (by omega)⟩)))
            · exact .inr (.inr (.inr (.inr ⟨rfl, h, by omega, hR1 (by omega)⟩)))
          · exact .inr (.inr (.inl ⟨rfl, by omega, hR1 (by omega)⟩))
      clear hk32 hR0 hR1 hks hc hbits hR k2 k5
      rcases hway with ⟨rfl, h1, HR⟩ | ⟨rfl, h1, h2, HR⟩ | ⟨rfl, h1, HR⟩ | ⟨rfl, rfl, h1, HR⟩ | ⟨rfl, rfl, h1, HR⟩
      all_goals
        go_enter Try.func14, Try.ntmps14
        go_wp2_with fail
        refine (unhide hC).mono ?_
        rintro e w1 ⟨rfl, hbel⟩
        go_wp2
        try (go_quiet (fail); go_wp2)
        go_ret3
        exact ⟨three_ret (by rw [unhide HR] <;> rfl), by first | exact hbel.alloc hbel.size _ | exact below_drewN (hbel.alloc hbel.size _) _⟩
  · have hask' : Leb.asks s.size a bits = false := by simpa using hask
    have hread : Leb.uRead s a bits = (0, 0, 1) := by unfold Leb.uRead; rw [hask']; rfl
    rw [hread]
    clear hread hask
    go_enter Try.func14, Try.ntmps14
    go_wp2_with fail
    refine (c21_arg _ _ _ _ hask').mono ?_
    rintro e w1 ⟨rfl, hbel⟩
    go_wp2
    go_ret3
    exact ⟨rfl, hbel.alloc hbel.size _⟩
end Go.Proofs.Ytpigdljibfddlaa
