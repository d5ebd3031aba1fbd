/- The document's memory as it lies: a block of two cells, and a row of bytes with room behind them. -/
import Derived.Test.YtagcdnkgochpnaaM9
import Derived.Lib.AppendZerosOnto
import Derived.Lib.BufferWrite
namespace Go.Proofs.Ytagcdnkgochpnaa
open Go.RowKit Mm
set_option linter.unusedVariables false
namespace Mm
structure RM (w : World) (c r : Nat) (mo : Int) (pg : Nat) (bs : List Int) (ex : List Value) : Prop where
  blk : w.heap[c]? = some (.cells #[.slice (some ⟨r, 0, none⟩) bs.length (bs.length + ex.length), .int .i64 mo] 65 (0, 0))
  row : w.heap[r]? = some (.cells (bcells bs ++ ex).toArray 5 (0, 0))
  len : bs.length = pg * 65536
  le : (pg : Int) ≤ mo
  most : mo ≤ 32
  ne : c ≠ r
  bd : ∀ x ∈ bs, 0 ≤ x ∧ x ≤ 255
section
variable {w w' : World} {b r : Nat} {mo : Int} {pg : Nat} {bs : List Int} {ex : List Value}
theorem RM.cell (h : RM w b r mo pg bs ex) (j : Nat) (v : Value) (hv : #[Value.slice (some ⟨r, 0, none⟩) bs.length (bs.length + ex.length), .int .i64 mo][j]? = some v) : w.cell? ⟨b, j, none⟩ = some v := by
  unfold World.cell?; rw [h.blk]; exact hv
theorem RM.frz (h : RM w b r mo pg bs ex) (j : Nat) : w.frozen? ⟨b, j, none⟩ = false := by unfold World.frozen?; rw [h.blk]; simp
theorem RM.lt (h : RM w b r mo pg bs ex) : b < w.heap.size := (Array.getElem?_eq_some_iff.1 h.blk).1
theorem RM.ltr (h : RM w b r mo pg bs ex) : r < w.heap.size := (Array.getElem?_eq_some_iff.1 h.row).1
theorem RM.on {S : List Nat} (h : RM w b r mo pg bs ex) (hf : Frm S w w') (hb : b ∉ S) (hr : r ∉ S) : RM w' b r mo pg bs ex :=
  ⟨by rw [hf.block b h.lt hb]; exact h.blk, by rw [hf.block r h.ltr hr]; exact h.row, h.len, h.le, h.most, h.ne, h.bd⟩
theorem RM.on0 (h : RM w b r mo pg bs ex) (hf : Below w.heap.size w w') : RM w' b r mo pg bs ex := h.on (S := []) (Frm.of hf) (by simp) (by simp)
theorem RM.byte (h : RM w b r mo pg bs ex) (j : Nat) (x : Int) (hx : bs[j]? = some x) : w.cell? ⟨r, j, none⟩ = some (.int .u8 x) := by
  have hl : j < bs.length := (List.getElem?_eq_some_iff.1 hx).1
  have e : (bcells bs ++ ex)[j]? = some (.int .u8 x) := by
    rw [List.getElem?_append_left (by rw [bcells_len]; exact hl)]
    unfold bcells; rw [List.getElem?_map, hx]; rfl
  unfold World.cell?; rw [h.row]
  simp only [List.getElem?_toArray]
  exact e
theorem RM.frzr (h : RM w b r mo pg bs ex) (j : Nat) : w.frozen? ⟨r, j, none⟩ = false := by unfold World.frozen?; rw [h.row]; simp
theorem RM.pg32 (h : RM w b r mo pg bs ex) : pg ≤ 32 := by have := h.le; have := h.most; omega
theorem RM.setByte (h : RM w b r mo pg bs ex) (j : Nat) (hj : j < bs.length) (y : Int) (hy : 0 ≤ y ∧ y ≤ 255) : RM (w.setCell ⟨r, j, none⟩ (.int .u8 y)) b r mo pg (bs.set j y) ex := by
  refine ⟨?_, ?_, ?_, h.le, h.most, h.ne, ?_⟩
  · rw [Below.heap_setCell _ _ _ _ h.ne, List.length_set]; exact h.blk
  · have := heap_setCell_same w r j _ _ (.int .u8 y) h.row
    rw [this]
    congr 2
    rw [List.setIfInBounds_toArray, List.set_append_left _ _ (by rw [bcells_len]; exact hj)]
    unfold bcells
    rw [List.map_set]
  · rw [List.length_set]; exact h.len
  · intro x hx
    rcases List.mem_or_eq_of_mem_set hx with hx | rfl
    · exact h.bd x hx
    · exact hy
end
end Mm
set_option maxHeartbeats 1000000 in
theorem qPages {w : World} {b r : Nat} {mo : Int} {pg : Nat} {bs : List Int} {ex : List Value} (h : RM w b r mo pg bs ex) :
    Calls Try.prog 10 #[.pointer (some ⟨b, 0, none⟩)] w fun e w' => e = .returned (.int .i64 pg) ∧ w' = w := by
  have c0 := h.cell 0 _ rfl
  have hl := h.len
  have hp := h.pg32
  have hq : (bs.length : Int).tdiv 65536 = (pg : Int) := by rw [hl, Int.tdiv_eq_ediv_of_nonneg (by omega)]; omega
  obtain ⟨L, hL⟩ : ∃ L, L = bs.length := ⟨_, rfl⟩
  rw [← hL] at c0 hq hl
  clear h hL
  have hL2 : L ≤ 2097152 := by omega
  clear hl
  go_enter Try.func10, Try.ntmps10
  go_wp2
  go_ret
  exact ⟨rfl, rfl⟩
set_option maxHeartbeats 1000000 in
theorem qSized (w : World) (n : Int) : Calls Try.prog 24 #[.int .i64 n] w fun e w' => e = .returned (.bool (szd n)) ∧ w' = w := by
  by_cases hs : szd n = true
  · rw [hs]
    rcases szd_of hs with rfl | rfl | rfl | rfl
    all_goals (
      clear hs
      go_enter Try.func24, Try.ntmps24
      go_wp2
      go_ret
      exact ⟨rfl, rfl⟩)
  · have hs' : szd n = false := by simpa using hs
    obtain ⟨n1, n2, n4, n8⟩ := szd_not hs'
    rw [hs']
    have HS := hideR hs'
    clear hs hs'
    go_enter Try.func24, Try.ntmps24
    go_wp2
    go_ret
    exact ⟨by show Ending.returned (.bool (szd n)) = _; rw [HS.out], rfl⟩
set_option maxHeartbeats 1000000 in
theorem qThere {w : World} {b r : Nat} {mo : Int} {pg : Nat} {bs : List Int} {ex : List Value} (h : RM w b r mo pg bs ex) (at_ n : Nat) (ha : at_ ≤ 18446744073709551615) (hn : n ≤ 9223372036854775807) :
    Calls Try.prog 25 #[.pointer (some ⟨b, 0, none⟩), .int .u64 at_, .int .i64 n] w fun e w' => e = .returned (.bool (fits bs.length at_ n)) ∧ w' = w := by
  have c0 := h.cell 0 _ rfl
  have hl := h.len
  have hp := h.pg32
  have hL : bs.length ≤ 2097152 := by omega
  generalize bs.length = L at *
  clear h hl hp
  by_cases h1 : at_ ≤ L
  · have d1 : decide ((at_ : Int) ≤ (L : Int)) = true := decide_eq_true (by omega)
    have hw2 : IntKind.u64.wrap ((L : Int) - (at_ : Int)) = (L : Int) - (at_ : Int) := wrap_u64 (by omega) (by omega)
    by_cases h2 : n ≤ L - at_
    · have d2 : decide ((n : Int) ≤ (L : Int) - at_) = true := decide_eq_true (by omega)
      rw [fits_of ⟨h1, h2⟩]
      go_enter Try.func25, Try.ntmps25
      go_wp2
      go_ret
      exact ⟨rfl, rfl⟩
    · have d2 : decide ((n : Int) ≤ (L : Int) - at_) = false := decide_eq_false (by omega)
      rw [fits_not (fun h => h2 h.2)]
      go_enter Try.func25, Try.ntmps25
      go_wp2
      go_ret
      exact ⟨rfl, rfl⟩
  · have d1 : decide ((at_ : Int) ≤ (L : Int)) = false := decide_eq_false (by omega)
    rw [fits_not (fun h => h1 h.1)]
    go_enter Try.func25, Try.ntmps25
    go_wp2
    go_ret
    exact ⟨rfl, rfl⟩
end Go.Proofs.Ytagcdnkgochpnaa
