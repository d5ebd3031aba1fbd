/- The law's steps as they lie; a fork of both. -/
import Derived.Test.YtagcdnkgochpnaaQ9
import Derived.Test.YtagcdnkgochpnaaK1h
namespace Go.Proofs.Ytagcdnkgochpnaa
open Go.RowKit Mm Rep
set_option linter.unusedVariables false
namespace Mm
structure St where
  kd : Int
  at_ : Nat
  n : Int
  v : Int
  t : ByteArray
structure StAt (w : World) (b o : Nat) (x : St) : Prop where
  kd : w.cell? ⟨b, o, none⟩ = some (.int .i64 x.kd)
  at_ : w.cell? ⟨b, o + 1, none⟩ = some (.int .u64 x.at_)
  n : w.cell? ⟨b, o + 2, none⟩ = some (.int .i64 x.n)
  v : w.cell? ⟨b, o + 3, none⟩ = some (.int .u64 x.v)
  t : w.cell? ⟨b, o + 4, none⟩ = some (.string x.t)
  ha : x.at_ ≤ 18446744073709551615
  hn : x.n ≤ 9223372036854775807
  hv : 0 ≤ x.v ∧ x.v ≤ 18446744073709551615
  ht : x.t.size ≤ 9223372036854775807
theorem StAt.on {w w' : World} {b o : Nat} {x : St} (h : StAt w b o x) (hb : Below w.heap.size w w') : StAt w' b o x :=
  ⟨cell_on hb h.kd, cell_on hb h.at_, cell_on hb h.n, cell_on hb h.v, cell_on hb h.t, h.ha, h.hn, h.hv, h.ht⟩
section
variable {H : Type} {enc : TypeId × Value → H} {w : World} {base : Nat} {spare : Nat → Bool} {held : Bool}
theorem u64_field {P : Program} {t : TypeId} {n : Nat} {cs : List Value} {o : Nat} {y : DataW H × List MemPlace} (ht : P.underlying t = some (.int .u64)) (hc : P.cellsOf t = 1) (h : DataW.trod enc P w base spare held n t ((cs.drop o).take (P.cellsOf t)) = some y) : ∃ z : Int, cs[o]? = some (.int .u64 z) ∧ (Lit.int .u64 z).wf = true := by
  rw [hc] at h
  obtain ⟨z, h1, _, h2⟩ := DataW.trod_int ht h
  exact ⟨z, take_one h1, h2⟩
theorem cI : Try.prog.cellsOf 3 = 1 := by kernel_rfl
theorem cU : Try.prog.cellsOf 32 = 1 := by kernel_rfl
theorem cS : Try.prog.cellsOf 9 = 1 := by kernel_rfl
theorem cStep : Try.prog.cellsOf 34 = 5 := by kernel_rfl
theorem steps_of {fuel : Nat} {v : Value} {x : DataW H × List MemPlace} (h : DataW.trod enc Try.prog w base spare held fuel 24 [v] = some x) : ∃ l, Row 5 (StAt w) v l := by
  refine (row_of_trod 5 (by omega) _ Try.underlying24 cStep h fun n cs y b o _ hy hl hc => ?_).1
  obtain ⟨xs, m, rfl, _, _, hxl, hall⟩ := DataW.trod_struct Try.underlying34 hy
  obtain ⟨y0, g0⟩ := field_get hxl hall 0 _ rfl
  obtain ⟨y1, g1⟩ := field_get hxl hall 1 _ rfl
  obtain ⟨y2, g2⟩ := field_get hxl hall 2 _ rfl
  obtain ⟨y3, g3⟩ := field_get hxl hall 3 _ rfl
  obtain ⟨y4, g4⟩ := field_get hxl hall 4 _ rfl
  obtain ⟨z0, e0, w0⟩ := int_field Try.underlying3 cI g0
  obtain ⟨z1, e1, w1⟩ := u64_field Try.underlying32 cU g1
  obtain ⟨z2, e2, w2⟩ := int_field Try.underlying3 cI g2
  obtain ⟨z3, e3, w3⟩ := u64_field Try.underlying32 cU g3
  obtain ⟨z4, e4, w4⟩ := str_field Try.underlying9 cS g4
  have b1 := bounds_u64 w1
  obtain ⟨k, rfl⟩ := Int.eq_ofNat_of_zero_le b1.1
  exact ⟨⟨z0, k, z2, z3, z4⟩, (hc 0 (by omega)).trans e0, (hc 1 (by omega)).trans e1, (hc 2 (by omega)).trans e2, (hc 3 (by omega)).trans e3, (hc 4 (by omega)).trans e4, by show k ≤ 18446744073709551615; omega, (bounds_i64 w2).2, bounds_u64 w3, w4⟩
end
/-- the same pair, held against less -/
theorem Pair.weak {w0 w w1 : World} {k : Nat} {mv qv : Value} (h : Pair w k mv qv w1) (hb : Below w0.heap.size w0 w) : Pair w0 k mv qv w1 := by
  refine ⟨bel_on hb h.1, ?_⟩
  have hs := hb.size
  rcases h.2 with h2 | ⟨b, r, c, s, mo, pg, bs, ex, e1, e2, h2⟩
  · exact .inl h2
  · exact .inr ⟨b, r, c, s, mo, pg, bs, ex, e1, e2, ⟨h2.m, h2.q, h2.bc, h2.bs_, h2.rc, h2.rs, h2.kb, h2.kr, h2.kc, h2.ks, by have := h2.gb; omega, by have := h2.gr; omega, by have := h2.gc; omega, by have := h2.gs; omega⟩⟩
/-- both forked: another pair, apart from the first -/
theorem PS.forked {w0 w w1 w2 : World} {k b r c s b' r' c' s' : Nat} {mo : Int} {pg : Nat} {bs : List Int} {ex ex' : List Value} (h : PS w0 k w b r c s mo pg bs ex) (hm : Mem w1 b' r' mo pg bs) (hb1 : w.heap.size ≤ b') (hb2 : w.heap.size ≤ r') (hB1 : Below w.heap.size w w1)
    (hq : RM w2 c' s' mo pg bs ex') (hc1 : w1.heap.size ≤ c') (hc2 : w1.heap.size ≤ s') (hB2 : Below w1.heap.size w1 w2) :
    Pair w b (.pointer (some ⟨b', 0, none⟩)) (.pointer (some ⟨c', 0, none⟩)) w2 := by
  have l1 := h.m.lt
  have l2 := hm.lt
  have l3 := hm.ltr
  have l4 := hB1.size
  exact ⟨bel_on hB1 hB2, .inr ⟨b', r', c', s', mo, pg, bs, ex', rfl, rfl, ⟨hm.on0 hB2, hq, by omega, by omega, by omega, by omega, by omega, by omega, by omega, by omega, hb1, hb2, by omega, by omega⟩⟩⟩
end Mm
end Go.Proofs.Ytagcdnkgochpnaa
