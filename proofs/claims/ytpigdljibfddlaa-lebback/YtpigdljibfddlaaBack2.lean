/- Plain mathematics: the readers' answers at what was put, at what was cut off, in 32 bits, and that what is put is as short as what was read. -/
import Derived.Test.YtpigdljibfddlaaBack
namespace Go.Proofs.Ytpigdljibfddlaa
namespace Leb

theorem uFin_64 (f : Nat → Int) (k : Nat) (a n : Int) (hk : 0 < k) (hk10 : k ≤ 10) (hf : 0 ≤ f 9 ∧ f 9 < 128 ∨ k < 10) (hv : val f k = n) (hn : n ≤ 18446744073709551615) : uFin f k a 64 = (n, a + k, 0) := by
  unfold uFin
  rw [if_neg, hv]
  rintro (h | ⟨h, _⟩ | ⟨rfl, h⟩)
  · omega
  · exact absurd h (by decide)
  · have h9 := val_9 f 9 (by omega)
    have e : val f 10 = val f 9 + 9223372036854775808 * (f 9 % 128) := rfl
    omega
theorem sFin_64 (f : Nat → Int) (k : Nat) (a n : Int) (hk : 0 < k) (hk10 : k ≤ 10) (hf : 0 ≤ f 9 ∧ f 9 < 128 ∨ k < 10) (hv : sval f k = n) (hn0 : -9223372036854775808 ≤ n) (hn : n ≤ 9223372036854775807) : sFin f k a 64 = (n, a + k, 0) := by
  unfold sFin
  rw [if_neg, hv]
  rintro (h | ⟨h, _⟩ | ⟨rfl, h⟩)
  · omega
  · exact absurd h (by decide)
  · have h9 := val_9 f 9 (by omega)
    have e : val f 10 = val f 9 + 9223372036854775808 * (f 9 % 128) := rfl
    have e2 : (128 : Int) ^ 10 = 1180591620717411303424 := by decide
    have e3 : sval f 10 = val f 10 + 128 ^ 10 * (if 64 ≤ f 9 % 128 then -1 else 0) := rfl
    rw [e, e2] at e3
    split at e3 <;> omega

theorem from_lies {s : ByteArray} {a : Nat} {xs : List Int} (h : ∀ j, j < xs.length → bt s (a + j) = xs.getD j 0) : Lies (from_ s a) 0 xs := fun j hj => by
  rw [Nat.zero_add]; exact h j hj
theorem uB_last {f : Nat → Int} {g : Nat} {n : Int} (h0 : 0 ≤ n) (hg : n.toNat ≤ g) (hl : Lies f 0 (uB n)) : f ((uB n).length - 1) < 128 := by
  have h := grp_u f (uB n).length g n 0 (uB n).length h0 hg hl (by omega)
  rw [if_pos (Nat.le_refl _), Nat.zero_add] at h
  have hp := uB_pos n
  have := (grpF_some f (uB n).length (uB n).length 0 (by omega)).2.2.2.1
  rwa [h] at this
theorem sB_last {f : Nat → Int} {g : Nat} {n : Int} (hg : n.natAbs ≤ g) (hl : Lies f 0 (sB n)) : f ((sB n).length - 1) < 128 := by
  have h := grp_s f (sB n).length g n 0 (sB n).length hg hl (by omega)
  rw [if_pos (Nat.le_refl _), Nat.zero_add] at h
  have hp := sB_pos n
  have := (grpF_some f (sB n).length (sB n).length 0 (by omega)).2.2.2.1
  rwa [h] at this

/-- A number that was put is read as it was. -/
theorem uRead_at (s : ByteArray) (a : Nat) (n : Int) (h0 : 0 ≤ n) (h1 : n ≤ 18446744073709551615) (hl : ∀ j, j < (uB n).length → bt s (a + j) = (uB n).getD j 0) (hs : a + (uB n).length ≤ s.size) :
    uRead s a 64 = (n, (a : Int) + (uB n).length, 0) := by
  have hask : asks s.size a 64 = true := decide_eq_true ⟨.inr rfl, by omega, by omega⟩
  have hL := from_lies hl
  have h10 := uB_ten h0 h1
  have hp := uB_pos n
  have hg := grp_u (from_ s a) (s.size - a) n.toNat n 0 10 h0 (Nat.le_refl _) hL (by omega)
  rw [if_pos h10, Nat.zero_add] at hg
  have hv := val_u (from_ s a) n.toNat n 0 h0 (Nat.le_refl _) hL
  rw [Nat.zero_add] at hv
  have hlast := uB_last h0 (Nat.le_refl _) hL
  unfold uRead
  rw [if_pos hask, Int.toNat_natCast]
  show uFin (from_ s a) (grpF (from_ s a) (s.size - a) 10 0) a 64 = _
  rw [hg]
  refine uFin_64 _ _ _ _ hp h10 ?_ (by rw [hv]; simp [val]) h1
  by_cases hk : (uB n).length = 10
  · left
    rw [hk] at hlast
    exact ⟨(from_bd s a 9).1, hlast⟩
  · right; omega
theorem sRead_at (s : ByteArray) (a : Nat) (n : Int) (h0 : -9223372036854775808 ≤ n) (h1 : n ≤ 9223372036854775807) (hl : ∀ j, j < (sB n).length → bt s (a + j) = (sB n).getD j 0) (hs : a + (sB n).length ≤ s.size) :
    sRead s a 64 = (n, (a : Int) + (sB n).length, 0) := by
  have hask : asks s.size a 64 = true := decide_eq_true ⟨.inr rfl, by omega, by omega⟩
  have hL := from_lies hl
  have h10 := sB_ten h0 h1
  have hp := sB_pos n
  have hg := grp_s (from_ s a) (s.size - a) n.natAbs n 0 10 (Nat.le_refl _) hL (by omega)
  rw [if_pos h10, Nat.zero_add] at hg
  have hv := val_s (from_ s a) n.natAbs n 0 (Nat.le_refl _) hL
  rw [Nat.zero_add] at hv
  have hlast := sB_last (Nat.le_refl _) hL
  unfold sRead
  rw [if_pos hask, Int.toNat_natCast]
  show sFin (from_ s a) (grpF (from_ s a) (s.size - a) 10 0) a 64 = _
  rw [hg]
  refine sFin_64 _ _ _ _ hp h10 ?_ (by show val _ _ + _ * sg _ = _; rw [hv]; simp [val]) h0 h1
  by_cases hk : (sB n).length = 10
  · left
    rw [hk] at hlast
    exact ⟨(from_bd s a 9).1, hlast⟩
  · right; omega
/-- Cut off it is none. -/
theorem uRead_cut (s : ByteArray) (n : Int) (h0 : 0 ≤ n) (hl : ∀ j, j + 1 < (uB n).length → bt s j = (uB n).getD j 0) (hs : s.size = (uB n).length - 1) : uRead s 0 64 = (0, 0, 10) := by
  have hask : asks s.size 0 64 = true := decide_eq_true ⟨.inr rfl, by omega, by omega⟩
  have hc := cut_u (from_ s 0) n.toNat n 0 10 h0 (Nat.le_refl _) (fun j hj => by rw [← hl j hj]; unfold from_; congr 1; omega)
  unfold uRead
  rw [if_pos hask]
  show uFin (from_ s 0) (grpF (from_ s 0) (s.size - 0) 10 0) 0 64 = _
  rw [show s.size - 0 = 0 + ((uB n).length - 1) by omega, hc]
  rfl
theorem sRead_cut (s : ByteArray) (n : Int) (hl : ∀ j, j + 1 < (sB n).length → bt s j = (sB n).getD j 0) (hs : s.size = (sB n).length - 1) : sRead s 0 64 = (0, 0, 10) := by
  have hask : asks s.size 0 64 = true := decide_eq_true ⟨.inr rfl, by omega, by omega⟩
  have hc := cut_s (from_ s 0) n.natAbs n 0 10 (Nat.le_refl _) (fun j hj => by rw [← hl j hj]; unfold from_; congr 1; omega)
  unfold sRead
  rw [if_pos hask]
  show sFin (from_ s 0) (grpF (from_ s 0) (s.size - 0) 10 0) 0 64 = _
  rw [show s.size - 0 = 0 + ((sB n).length - 1) by omega, hc]
  rfl
/-- At the end there is none. -/
theorem sRead_end (s : ByteArray) : sRead s s.size 64 = (0, 0, 10) := by
  have hask : asks s.size s.size 64 = true := decide_eq_true ⟨.inr rfl, by omega, by omega⟩
  unfold sRead
  rw [if_pos hask, Int.toNat_natCast]
  show sFin (from_ s s.size) (grpF (from_ s s.size) (s.size - s.size) 10 0) s.size 64 = _
  rw [grpF_past _ _ _ _ (by omega)]
  rfl
/-- In 32 bits what was put is read if it fits. -/
theorem uRead_32 (s : ByteArray) (n : Int) (h0 : 0 ≤ n) (hl : ∀ j, j < (uB n).length → bt s j = (uB n).getD j 0) (hs : (uB n).length ≤ s.size) : (uRead s 0 32).2.2 = if n < 4294967296 then 0 else 10 := by
  have hask : asks s.size 0 32 = true := decide_eq_true ⟨.inl rfl, by omega, by omega⟩
  have hL : Lies (from_ s 0) 0 (uB n) := from_lies (fun j hj => by rw [Nat.zero_add]; exact hl j hj)
  have hp := uB_pos n
  have hg := grp_u (from_ s 0) (s.size - 0) n.toNat n 0 5 h0 (Nat.le_refl _) hL (by omega)
  rw [Nat.zero_add] at hg
  have hv := val_u (from_ s 0) n.toNat n 0 h0 (Nat.le_refl _) hL
  rw [Nat.zero_add] at hv
  have hv' : val (from_ s 0) (uB n).length = n := by rw [hv]; simp [val]
  unfold uRead
  rw [if_pos hask]
  show (uFin (from_ s 0) (grpF (from_ s 0) (s.size - 0) 5 0) 0 32).2.2 = _
  rw [hg]
  by_cases h5 : (uB n).length ≤ 5
  · rw [if_pos h5]
    unfold uFin
    rw [hv']
    by_cases hn : n < 4294967296
    · rw [if_pos hn, if_neg]
      rintro (h | ⟨_, h⟩ | ⟨h, _⟩) <;> omega
    · rw [if_neg hn, if_pos (.inr (.inl ⟨rfl, by omega⟩))]
  · rw [if_neg h5, if_neg]
    · rfl
    · intro hn
      have e : (128 : Int) ^ 5 = 34359738368 := by decide
      exact h5 (uB_len 4 n h0 (by show n < 128 ^ 5; rw [e]; omega))
theorem sRead_32 (s : ByteArray) (n : Int) (hl : ∀ j, j < (sB n).length → bt s j = (sB n).getD j 0) (hs : (sB n).length ≤ s.size) : (sRead s 0 32).2.2 = if -2147483648 ≤ n ∧ n < 2147483648 then 0 else 10 := by
  have hask : asks s.size 0 32 = true := decide_eq_true ⟨.inl rfl, by omega, by omega⟩
  have hL : Lies (from_ s 0) 0 (sB n) := from_lies (fun j hj => by rw [Nat.zero_add]; exact hl j hj)
  have hp := sB_pos n
  have hg := grp_s (from_ s 0) (s.size - 0) n.natAbs n 0 5 (Nat.le_refl _) hL (by omega)
  rw [Nat.zero_add] at hg
  have hv := val_s (from_ s 0) n.natAbs n 0 (Nat.le_refl _) hL
  rw [Nat.zero_add] at hv
  have hv' : sval (from_ s 0) (sB n).length = n := by show val _ _ + _ * sg _ = _; rw [hv]; simp [val]
  unfold sRead
  rw [if_pos hask]
  show (sFin (from_ s 0) (grpF (from_ s 0) (s.size - 0) 5 0) 0 32).2.2 = _
  rw [hg]
  by_cases h5 : (sB n).length ≤ 5
  · rw [if_pos h5]
    unfold sFin
    rw [hv']
    by_cases hn : -2147483648 ≤ n ∧ n < 2147483648
    · rw [if_pos hn, if_neg]
      rintro (h | ⟨_, h⟩ | ⟨h, _⟩) <;> omega
    · rw [if_neg hn, if_pos (.inr (.inl ⟨rfl, by omega⟩))]
  · rw [if_neg h5, if_neg]
    · rfl
    · intro hn
      have e : (64 : Int) * 128 ^ 4 = 17179869184 := by decide
      exact h5 (sB_len 4 n (by rw [e]; omega) (by rw [e]; omega))
/-- What was read is put in no more bytes. -/
theorem uRead_short (s : ByteArray) (a : Int) (h : (uRead s a 64).2.2 = 0) : 0 ≤ (uRead s a 64).1 ∧ (uRead s a 64).1 ≤ 18446744073709551615 ∧ ((uB (uRead s a 64).1).length : Int) ≤ (uRead s a 64).2.1 - a ∧ 0 ≤ a ∧ (uRead s a 64).2.1 ≤ s.size := by
  unfold uRead at h ⊢
  by_cases hask : asks s.size a 64 = true
  · rw [if_pos hask] at h ⊢
    unfold uOut uFin at h ⊢
    split at h
    · exact absurd h (by decide)
    · rename_i hn
      rw [if_neg hn]
      have hq := asks_yes hask
      have hk0 : grp (from_ s a.toNat) (s.size - a.toNat) (most 64) ≠ 0 := fun h' => hn (.inl h')
      obtain ⟨k1, k2, k3, k4, k5⟩ := grp_some _ _ _ hk0
      have hk10 : grp (from_ s a.toNat) (s.size - a.toNat) (most 64) ≤ 10 := k2
      generalize grp (from_ s a.toNat) (s.size - a.toNat) (most 64) = k at *
      have hv := val_bd (from_ s a.toNat) k
      refine ⟨hv.1, ?_, ?_, hq.2.1, by simp only; omega⟩
      · by_cases h10 : k = 10
        · subst h10
          have := fun h' => hn (.inr (.inr ⟨rfl, h'⟩))
          exact val_nine _ (from_bd s _ 9).1 (by omega)
        · have := val_9 (from_ s a.toNat) k (by omega)
          omega
      · have := uB_len (k - 1) (val (from_ s a.toNat) k) hv.1 (by rw [show k - 1 + 1 = k by omega]; exact hv.2)
        simp only
        omega
  · rw [if_neg hask] at h
    exact absurd h (by decide)
theorem sRead_short (s : ByteArray) (a : Int) (h : (sRead s a 64).2.2 = 0) : -9223372036854775808 ≤ (sRead s a 64).1 ∧ (sRead s a 64).1 ≤ 9223372036854775807 ∧ ((sB (sRead s a 64).1).length : Int) ≤ (sRead s a 64).2.1 - a ∧ 0 ≤ a ∧ (sRead s a 64).2.1 ≤ s.size := by
  unfold sRead at h ⊢
  by_cases hask : asks s.size a 64 = true
  · rw [if_pos hask] at h ⊢
    unfold sOut sFin at h ⊢
    split at h
    · exact absurd h (by decide)
    · rename_i hn
      rw [if_neg hn]
      have hq := asks_yes hask
      have hk0 : grp (from_ s a.toNat) (s.size - a.toNat) (most 64) ≠ 0 := fun h' => hn (.inl h')
      obtain ⟨k1, k2, k3, k4, k5⟩ := grp_some _ _ _ hk0
      have hk10 : grp (from_ s a.toNat) (s.size - a.toNat) (most 64) ≤ 10 := k2
      generalize grp (from_ s a.toNat) (s.size - a.toNat) (most 64) = k at *
      have hok : k ≤ 9 ∨ (k = 10 ∧ (from_ s a.toNat 9 = 0 ∨ from_ s a.toNat 9 = 127)) := by
        by_cases h10 : k = 10
        · by_cases h' : from_ s a.toNat 9 = 0
          · exact .inr ⟨h10, .inl h'⟩
          · by_cases h'' : from_ s a.toNat 9 = 127
            · exact .inr ⟨h10, .inr h''⟩
            · exact absurd (.inr (.inr ⟨h10, h', h''⟩)) hn
        · exact .inl (by omega)
      have hb := sval_bd (from_ s a.toNat) k k1 hok
      refine ⟨hb.1, hb.2, ?_, hq.2.1, by simp only; omega⟩
      obtain ⟨j, rfl⟩ : ∃ j, k = j + 1 := ⟨k - 1, by omega⟩
      have hv := val_bd (from_ s a.toNat) j
      have hf : 0 ≤ from_ s a.toNat j % 128 ∧ from_ s a.toNat j % 128 ≤ 127 := by omega
      have e : sval (from_ s a.toNat) (j + 1) = val (from_ s a.toNat) j + 128 ^ j * ((if 64 ≤ from_ s a.toNat j % 128 then -1 else 0) * 128 + from_ s a.toNat j % 128) := by
        unfold sval; rw [Nat.add_sub_cancel, val_split]
      have hp := pow_pos128 j
      have hle : -(64 * 128 ^ j) ≤ sval (from_ s a.toNat) (j + 1) ∧ sval (from_ s a.toNat) (j + 1) < 64 * 128 ^ j := by
        rw [e]
        generalize (128 : Int) ^ j = P at *
        generalize from_ s a.toNat j % 128 = g at *
        split
        · rename_i hg
          have h1 : P * (-64) ≤ P * (-1 * 128 + g) := Int.mul_le_mul_of_nonneg_left (by omega) (by omega)
          have h2 : P * (-1 * 128 + g) ≤ P * (-1) := Int.mul_le_mul_of_nonneg_left (by omega) (by omega)
          omega
        · rename_i hg
          have h1 : P * 0 ≤ P * (0 * 128 + g) := Int.mul_le_mul_of_nonneg_left (by omega) (by omega)
          have h2 : P * (0 * 128 + g) ≤ P * 63 := Int.mul_le_mul_of_nonneg_left (by omega) (by omega)
          omega
      have := sB_len j _ hle.1 hle.2
      simp only
      omega
  · rw [if_neg hask] at h
    exact absurd h (by decide)

/-! ### Bytes of strings that are put together -/
theorem bt_nums (xs : List Int) (h : ∀ x ∈ xs, 0 ≤ x ∧ x ≤ 255) (j : Nat) (hj : j < xs.length) : bt (strOfNums xs) j = xs.getD j 0 := by
  have hsz : j < (strOfNums xs).size := by rw [strOfNums_size]; exact hj
  unfold bt
  rw [dif_pos hsz]
  have hx := h (xs[j]) (List.getElem_mem hj)
  show (((strOfNums xs).data[j]'hsz).toNat : Int) = _
  simp only [strOfNums, List.getElem_toArray, List.getElem_map, List.getD, List.getElem?_eq_getElem hj, Option.getD_some]
  rw [UInt8.toNat_ofNat']
  omega
theorem bt_left (x y : ByteArray) (j : Nat) (hj : j < x.size) : bt (x ++ y) j = bt x j := by
  unfold bt
  rw [dif_pos (by rw [ByteArray.size_append]; omega), dif_pos hj]
  congr 2
  exact ByteArray.getElem_append_left hj
theorem bt_right (x y : ByteArray) (j : Nat) : bt (x ++ y) (x.size + j) = bt y j := by
  unfold bt
  by_cases h : j < y.size
  · rw [dif_pos (by rw [ByteArray.size_append]; omega), dif_pos h]
    congr 2
    rw [ByteArray.getElem_append_right (by omega)]
    congr 1
    omega
  · rw [dif_neg (by rw [ByteArray.size_append]; omega), dif_neg h]
theorem bt_cut (x : ByteArray) (n j : Nat) (hj : j < n) (hn : n ≤ x.size) : bt (x.extract 0 n) j = bt x j := by
  unfold bt
  rw [dif_pos (by rw [ByteArray.size_extract]; omega), dif_pos (by omega)]
  simp [ByteArray.getElem_extract]
theorem u_nums (n : Int) (h0 : 0 ≤ n) (j : Nat) (hj : j < (uB n).length) : bt (strOfNums (uB n)) j = (uB n).getD j 0 := bt_nums _ (uB_bd n.toNat n h0 (Nat.le_refl _)) j hj
theorem s_nums (n : Int) (j : Nat) (hj : j < (sB n).length) : bt (strOfNums (sB n)) j = (sB n).getD j 0 := bt_nums _ (sB_bd n.natAbs n (Nat.le_refl _)) j hj
end Leb
end Go.Proofs.Ytpigdljibfddlaa
