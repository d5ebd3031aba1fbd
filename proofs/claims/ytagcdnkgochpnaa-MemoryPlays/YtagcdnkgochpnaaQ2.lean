/- Text and Fill, of both. -/
import Derived.Test.YtagcdnkgochpnaaQ1
namespace Go.Proofs.Ytagcdnkgochpnaa
open Go.RowKit Mm
set_option linter.unusedVariables false
namespace Mm
def snums (s : ByteArray) : List Int := s.data.toList.map fun x => (x.toNat : Int)
theorem snums_len (s : ByteArray) : (snums s).length = s.size := by unfold snums; rw [List.length_map]; rfl
theorem snums_bd (s : ByteArray) : ∀ x ∈ snums s, 0 ≤ x ∧ x ≤ 255 := by
  intro x hx
  unfold snums at hx
  obtain ⟨u, _, rfl⟩ := List.mem_map.1 hx
  have := u.toNat_lt
  omega
theorem snums_cells (s : ByteArray) : Lib.byteCells s.data.toList = bcells (snums s) := by
  unfold bcells snums
  rw [List.map_map]
  rfl
theorem copy_nil_string {P : Program} (w : World) (dT sT ty elem : TypeId) (c : Nat) (s : ByteArray) (hu : P.underlying dT = some (.slice elem)) (hs : ((P.info? elem).map (·.size)).isSome = true) :
    (Builtin.copy_ #[dT, sT] ty #[.slice none 0 c, .string s]).run P w = .ok (goInt 0) w := by
  cases hq : P.info? elem with
  | none => simp [hq] at hs
  | some i => simp [Builtin.copy_, run_underlying hu, Builtin.lenOf, Builtin.firstCells, sizeOf, typeInfo, hq]
theorem Frm.row (r : Nat) (w : World) (cs : Array Value) : Frm [r] w (w.setRow r cs) :=
  ⟨rfl, rfl, rfl, by simp [World.setRow], fun k hk hp => setRow_other w r k cs (fun e => hp (by rw [e]; exact List.mem_singleton.2 rfl))⟩
theorem put_bd {bs ys : List Int} {k : Nat} (h1 : ∀ x ∈ bs, 0 ≤ x ∧ x ≤ 255) (h2 : ∀ x ∈ ys, 0 ≤ x ∧ x ≤ 255) : ∀ x ∈ put bs k ys, 0 ≤ x ∧ x ≤ 255 := by
  intro x hx
  unfold put at hx
  rcases List.mem_append.1 hx with h | h
  · rcases List.mem_append.1 h with h | h
    · exact h1 x (List.mem_of_mem_take h)
    · exact h2 x h
  · exact h1 x (List.mem_of_mem_drop h)
theorem put_cells (bs ys : List Int) (k : Nat) : (bcells bs).take k ++ bcells ys ++ (bcells bs).drop (k + ys.length) = bcells (put bs k ys) := by
  unfold bcells put
  rw [List.map_append, List.map_append, List.map_take, List.map_drop]
theorem Mem.fillRow {w : World} {b r : Nat} {mo : Int} {pg : Nat} {bs : List Int} (h : Mem w b r mo pg bs) (k : Nat) (ys : List Int) (hl : k + ys.length ≤ bs.length) (hy : ∀ x ∈ ys, 0 ≤ x ∧ x ≤ 255) :
    Mem (w.setRow r (bcells (put bs k ys)).toArray) b r mo pg (put bs k ys) :=
  ⟨by rw [setRow_other _ _ _ _ h.ne, put_len hl]; exact h.blk, setRow_heap _ _ _ _ _ _ h.row, by rw [put_len hl]; exact h.len, h.le, h.most, h.ne, put_bd h.bd hy⟩
theorem RM.fillRow {w : World} {b r : Nat} {mo : Int} {pg : Nat} {bs : List Int} {ex : List Value} (h : RM w b r mo pg bs ex) (k : Nat) (ys : List Int) (hl : k + ys.length ≤ bs.length) (hy : ∀ x ∈ ys, 0 ≤ x ∧ x ≤ 255) :
    RM (w.setRow r (bcells (put bs k ys) ++ ex).toArray) b r mo pg (put bs k ys) ex :=
  ⟨by rw [setRow_other _ _ _ _ h.ne, put_len hl]; exact h.blk, setRow_heap _ _ _ _ _ _ h.row, by rw [put_len hl]; exact h.len, h.le, h.most, h.ne, put_bd h.bd hy⟩
theorem size8s : ((Try.prog.info? 5).map (·.size)).isSome = true := by rw [size8]; rfl
/-- copy of a text onto the memory's row -/
theorem Mem.copyS {w : World} {b r : Nat} {mo : Int} {pg : Nat} {bs : List Int} (h : Mem w b r mo pg bs) (at_ off n c : Nat) (s : ByteArray) (hn : n = s.size) (hk : at_ + s.size ≤ bs.length) (ho : 0 < n → off = at_) :
    ∃ x w', (Builtin.copy_ #[60, 9] 3 #[.slice (some ⟨r, off, none⟩) n c, .string s]).run Try.prog w = .ok (goInt x) w' ∧ Mem w' b r mo pg (put bs at_ (snums s)) ∧ Frm [r] w w' := by
  by_cases h0 : s.size = 0
  · refine ⟨_, w, Lib.run_copy_empty_string w _ _ _ 5 _ n c s Try.underlying60 size8s h0, ?_, Frm.refl _ _⟩
    rw [show snums s = [] from List.eq_nil_of_length_eq_zero (by rw [snums_len]; exact h0), put_nil]
    exact h
  · obtain rfl := ho (by omega)
    have hr := Lib.run_copy_row_string (P := Try.prog) w 60 9 3 5 r off n c s (bcells bs).toArray 5 Try.underlying60 size8 h.row (by omega) (by simp [bcells_len]; omega)
    rw [snums_cells, ← snums_len s, put_cells bs (snums s) off] at hr
    exact ⟨_, _, hr, h.fillRow off _ (by rw [snums_len]; exact hk) (snums_bd s), Frm.row _ _ _⟩
theorem RM.copyS {w : World} {b r : Nat} {mo : Int} {pg : Nat} {bs : List Int} {ex : List Value} (h : RM w b r mo pg bs ex) (at_ n c : Nat) (s : ByteArray) (hn : s.size ≤ n) (hk : at_ + s.size ≤ bs.length) :
    ∃ x w', (Builtin.copy_ #[60, 9] 3 #[.slice (some ⟨r, at_, none⟩) n c, .string s]).run Try.prog w = .ok (goInt x) w' ∧ RM w' b r mo pg (put bs at_ (snums s)) ex ∧ Frm [r] w w' := by
  have hr := Lib.run_copy_row_string (P := Try.prog) w 60 9 3 5 r at_ n c s (bcells bs ++ ex).toArray 5 Try.underlying60 size8 h.row hn (by simp [bcells_len]; omega)
  have e : (bcells bs ++ ex).take at_ ++ bcells (snums s) ++ (bcells bs ++ ex).drop (at_ + (snums s).length) = bcells (put bs at_ (snums s)) ++ ex := by
    rw [← put_cells, List.take_append_of_le_length (by rw [bcells_len]; omega), List.drop_append_of_le_length (by rw [bcells_len, snums_len]; omega)]
    simp
  rw [snums_cells, ← snums_len s, e] at hr
  exact ⟨_, _, hr, h.fillRow at_ _ (by rw [snums_len]; exact hk) (snums_bd s), Frm.row _ _ _⟩
end Mm
set_option maxHeartbeats 1000000 in
theorem mFillY {w : World} {b r : Nat} {mo : Int} {pg : Nat} {bs : List Int} (h : Mem w b r mo pg bs) (at_ : Nat) (s : ByteArray) (hk : fits bs.length at_ s.size = true) :
    Calls Try.prog 31 #[.pointer (some ⟨b, 0, none⟩), .int .i64 at_, .string s] w fun e w' => e = .returned (.bool true) ∧ Mem w' b r mo pg (put bs at_ (snums s)) ∧ Frm [r] w w' := by
  have hf := of_decide_eq_true hk
  have hL : bs.length ≤ 2097152 := by have := h.len; have := h.pg32; omega
  have HC := hideR (mCutText h at_ s.size (by omega) (by omega))
  rw [show Int.toNat (s.size : Int) = s.size from rfl, show Int.toNat (at_ : Int) = at_ from rfl, hk, decide_eq_true (show (0 : Int) ≤ at_ ∧ (0 : Int) ≤ s.size by omega), Bool.true_and] at HC
  have HV := hideR (fun off c ho => h.copyS at_ off s.size c s rfl (by omega) ho)
  clear hk hf hL h
  go_enter Try.func31, Try.ntmps31
  go_wp2_with (go_at_call 33; refine HC.out.mono ?_; rintro e w' ⟨⟨v, rfl, o, m, c, rfl, hm, hv⟩, rfl⟩; obtain rfl : m = s.size := (by simpa using hm); obtain ⟨off, rfl, ho⟩ := hv.1 rfl; obtain ⟨x, w2, hcv, hM2, hF2⟩ := HV.out off c ho; have HM2 := hideR (And.intro hM2 hF2); clear hv hm HC ho hM2 hF2)
  go_ret
  exact ⟨rfl, HM2.out⟩
set_option maxHeartbeats 1000000 in
theorem mFillN {w : World} {b r : Nat} {mo : Int} {pg : Nat} {bs : List Int} (h : Mem w b r mo pg bs) (at_ : Int) (s : ByteArray) (ha : at_ ≤ 9223372036854775807) (hn : s.size ≤ 9223372036854775807) (hk : (decide (0 ≤ at_) && fits bs.length at_.toNat s.size) = false) :
    Calls Try.prog 31 #[.pointer (some ⟨b, 0, none⟩), .int .i64 at_, .string s] w fun e w' => e = .returned (.bool false) ∧ w' = w := by
  have HC := hideR (mCutText h at_ s.size ha (by omega))
  have e : decide (0 ≤ at_ ∧ (0 : Int) ≤ s.size) = decide (0 ≤ at_) := by by_cases h : 0 ≤ at_ <;> simp [h]
  rw [show Int.toNat (s.size : Int) = s.size from rfl, e, hk] at HC
  have hcv := fun c => copy_nil_string (P := Try.prog) w 60 9 3 5 c s Try.underlying60 size8s
  clear hk h e
  go_enter Try.func31, Try.ntmps31
  go_wp2_with (go_at_call 33; refine HC.out.mono ?_; rintro e w' ⟨⟨v, rfl, o, m, c, rfl, hm, hv⟩, rfl⟩; obtain rfl : m = 0 := (by simpa using hm); obtain rfl := hv.2 rfl; clear hv hm HC)
  go_ret
  exact ⟨rfl, rfl⟩
set_option maxHeartbeats 1000000 in
theorem qFillY {w : World} {b r : Nat} {mo : Int} {pg : Nat} {bs : List Int} {ex : List Value} (h : RM w b r mo pg bs ex) (at_ : Nat) (s : ByteArray) (hk : fits bs.length at_ s.size = true) :
    Calls Try.prog 32 #[.pointer (some ⟨b, 0, none⟩), .int .i64 at_, .string s] w fun e w' => e = .returned (.bool true) ∧ RM w' b r mo pg (put bs at_ (snums s)) ex ∧ Frm [r] w w' := by
  have hf := of_decide_eq_true hk
  have hL : bs.length ≤ 2097152 := by have := h.len; have := h.pg32; omega
  have HT := hideR (qThere h at_ s.size (by omega) (by omega))
  rw [hk] at HT
  have c0 := h.cell 0 _ rfl
  have d0 : decide ((at_ : Int) < 0) = false := decide_eq_false (by omega)
  obtain ⟨x, w2, hcv, hM2, hF2⟩ := h.copyS at_ (bs.length - at_) (bs.length + ex.length - at_) s (by omega) (by omega)
  have HM2 := hideR (And.intro hM2 hF2)
  obtain ⟨L, hLL⟩ : ∃ L, L = bs.length := ⟨_, rfl⟩
  rw [← hLL] at c0 hL hcv
  have hfa : at_ + s.size ≤ L := by omega
  have H := hideR h
  clear hk hf h hM2 hF2
  by_cases h0 : s.size = 0
  · have hz : snums s = [] := List.eq_nil_of_length_eq_zero (by rw [snums_len]; exact h0)
    rw [hz, put_nil]
    rw [h0, show ((0 : Nat) : Int) = 0 from rfl] at HT
    clear hcv HM2 hLL
    go_enter Try.func32, Try.ntmps32
    go_wp2_with (go_at_call 25; refine HT.out.mono ?_; rintro e w' ⟨rfl, rfl⟩)
    go_ret
    exact ⟨rfl, H.out, Frm.refl _ _⟩
  · have d1 : decide ((s.size : Int) > 0) = true := decide_eq_true (by omega)
    have hat : at_ < L := by omega
    clear hLL
    go_enter Try.func32, Try.ntmps32
    go_wp2_with (go_at_call 25; refine HT.out.mono ?_; rintro e w' ⟨rfl, rfl⟩)
    go_ret
    exact ⟨rfl, HM2.out⟩
set_option maxHeartbeats 1000000 in
theorem qFillN {w : World} {b r : Nat} {mo : Int} {pg : Nat} {bs : List Int} {ex : List Value} (h : RM w b r mo pg bs ex) (at_ : Int) (s : ByteArray) (ha : at_ ≤ 9223372036854775807) (hn : s.size ≤ 9223372036854775807) (hk : (decide (0 ≤ at_) && fits bs.length at_.toNat s.size) = false) :
    Calls Try.prog 32 #[.pointer (some ⟨b, 0, none⟩), .int .i64 at_, .string s] w fun e w' => e = .returned (.bool false) ∧ w' = w := by
  by_cases h0 : 0 ≤ at_
  · obtain ⟨p, rfl⟩ := Int.eq_ofNat_of_zero_le h0
    rw [decide_eq_true h0, Bool.true_and, show Int.toNat (p : Int) = p from rfl] at hk
    have HT := hideR (qThere h p s.size (by omega) hn)
    rw [hk] at HT
    have d0 : decide ((p : Int) < 0) = false := decide_eq_false (by omega)
    clear hk h h0
    go_enter Try.func32, Try.ntmps32
    go_wp2_with (go_at_call 25; refine HT.out.mono ?_; rintro e w' ⟨rfl, rfl⟩)
    go_ret
    exact ⟨rfl, rfl⟩
  · have d0 : decide (at_ < 0) = true := decide_eq_true (by omega)
    clear hk h
    go_enter Try.func32, Try.ntmps32
    go_wp2
    go_ret
    exact ⟨rfl, rfl⟩
namespace Mm
theorem RM.conv {w : World} {b r : Nat} {mo : Int} {pg : Nat} {bs : List Int} {ex : List Value} (h : RM w b r mo pg bs ex) (at_ n c : Nat) (hk : fits bs.length at_ n = true) :
    (convert 60 9 (.slice (some ⟨r, at_, none⟩) n c)).run Try.prog w = .ok (.string (strOfNums ((bs.drop at_).take n))) w := by
  have hf := of_decide_eq_true hk
  have hl : ((bs.drop at_).take n).length = n := by rw [List.length_take, List.length_drop]; omega
  refine run_convert_bytes_arg w 60 5 Try.underlying60 Try.underlying5 r at_ n c _ hl (fun i hi => ?_) 9 Try.underlying9
  obtain ⟨x, hx⟩ : ∃ x, bs[at_ + i]? = some x := ⟨_, List.getElem?_eq_getElem (by omega)⟩
  rw [h.byte _ _ hx, List.getD_eq_getElem?_getD, List.getElem?_take_of_lt hi, List.getElem?_drop, hx]
  rfl
end Mm
set_option maxHeartbeats 1000000 in
theorem qText0 {w : World} {b r : Nat} {mo : Int} {pg : Nat} {bs : List Int} {ex : List Value} (h : RM w b r mo pg bs ex) (at_ : Nat) (hk : fits bs.length at_ 0 = true) :
    Calls Try.prog 30 #[.pointer (some ⟨b, 0, none⟩), .int .i64 at_, .int .i64 0] w fun e w' => e = .returned (.tuple #[.string ByteArray.empty, .bool true]) ∧ w' = w := by
  have hf := of_decide_eq_true hk
  have hL : at_ ≤ 2097152 := by have := h.len; have := h.pg32; omega
  have HT := hideR (qThere h at_ 0 (by omega) (by omega))
  rw [hk, show ((0 : Nat) : Int) = 0 from rfl] at HT
  have d0 : decide ((at_ : Int) < 0) = false := decide_eq_false (by omega)
  clear hk h hf
  go_enter Try.func30, Try.ntmps30
  go_wp2_with (go_at_call 25; refine HT.out.mono ?_; rintro e w' ⟨rfl, rfl⟩)
  go_ret2
  exact ⟨rfl, rfl⟩
set_option maxHeartbeats 1000000 in
theorem qTextY {w : World} {b r : Nat} {mo : Int} {pg : Nat} {bs : List Int} {ex : List Value} (h : RM w b r mo pg bs ex) (at_ n : Nat) (hk : fits bs.length at_ n = true) :
    Calls Try.prog 30 #[.pointer (some ⟨b, 0, none⟩), .int .i64 at_, .int .i64 n] w fun e w' => e = .returned (.tuple #[.string (strOfNums ((bs.drop at_).take n)), .bool true]) ∧ w' = w := by
  have hf := of_decide_eq_true hk
  have hL : bs.length ≤ 2097152 := by have := h.len; have := h.pg32; omega
  have HT := hideR (qThere h at_ n (by omega) (by omega))
  rw [hk] at HT
  have c0 := h.cell 0 _ rfl
  have d0 : decide ((at_ : Int) < 0) = false := decide_eq_false (by omega)
  have d1 : decide ((n : Int) < 0) = false := decide_eq_false (by omega)
  have hcv := fun c => h.conv at_ n c hk
  by_cases h0 : n = 0
  · subst h0
    have := qText0 h at_ hk
    rw [List.take_zero]
    exact this
  · have hfa : at_ + n ≤ bs.length := by omega
    have q0 : ((n : Int) == 0) = false := by simpa using h0
    generalize strOfNums ((bs.drop at_).take n) = S at *
    generalize bs.length = L at *
    clear hk h hf
    go_enter Try.func30, Try.ntmps30
    go_wp2_with (go_at_call 25; refine HT.out.mono ?_; rintro e w' ⟨rfl, rfl⟩)
    go_ret2
    exact ⟨rfl, rfl⟩
set_option maxHeartbeats 1000000 in
theorem qTextN {w : World} {b r : Nat} {mo : Int} {pg : Nat} {bs : List Int} {ex : List Value} (h : RM w b r mo pg bs ex) (at_ n : Int) (ha : at_ ≤ 9223372036854775807) (hn : n ≤ 9223372036854775807) (hk : (decide (0 ≤ at_ ∧ 0 ≤ n) && fits bs.length at_.toNat n.toNat) = false) :
    Calls Try.prog 30 #[.pointer (some ⟨b, 0, none⟩), .int .i64 at_, .int .i64 n] w fun e w' => e = .returned (.tuple #[.string ByteArray.empty, .bool false]) ∧ w' = w := by
  by_cases h0 : 0 ≤ at_
  · have d0 : decide (at_ < 0) = false := decide_eq_false (by omega)
    by_cases h1 : 0 ≤ n
    · have d1 : decide (n < 0) = false := decide_eq_false (by omega)
      rw [decide_eq_true ⟨h0, h1⟩, Bool.true_and] at hk
      obtain ⟨p, rfl⟩ := Int.eq_ofNat_of_zero_le h0
      obtain ⟨q, rfl⟩ := Int.eq_ofNat_of_zero_le h1
      have HT := hideR (qThere h p q (by omega) (by omega))
      rw [show Int.toNat (p : Int) = p from rfl, show Int.toNat (q : Int) = q from rfl] at hk
      rw [hk] at HT
      clear hk h h0 h1
      go_enter Try.func30, Try.ntmps30
      go_wp2_with (go_at_call 25; refine HT.out.mono ?_; rintro e w' ⟨rfl, rfl⟩)
      go_ret2
      exact ⟨rfl, rfl⟩
    · have d1 : decide (n < 0) = true := decide_eq_true (by omega)
      clear hk h
      go_enter Try.func30, Try.ntmps30
      go_wp2
      go_ret2
      exact ⟨rfl, rfl⟩
  · have d0 : decide (at_ < 0) = true := decide_eq_true (by omega)
    clear hk h
    go_enter Try.func30, Try.ntmps30
    go_wp2
    go_ret2
    exact ⟨rfl, rfl⟩
end Go.Proofs.Ytagcdnkgochpnaa
