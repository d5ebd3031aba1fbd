/- Both memories side by side: one call of both. -/
import Derived.Test.YtagcdnkgochpnaaQ5
namespace Go.Proofs.Ytagcdnkgochpnaa
open Go.RowKit Mm
set_option linter.unusedVariables false
namespace Mm
/-- two memories that are alike, apart from one another, from all that was there, and from one block more -/
structure PS (w0 : World) (k : Nat) (w : World) (b r c s : Nat) (mo : Int) (pg : Nat) (bs : List Int) (ex : List Value) : Prop where
  m : Mem w b r mo pg bs
  q : RM w c s mo pg bs ex
  bc : b ≠ c
  bs_ : b ≠ s
  rc : r ≠ c
  rs : r ≠ s
  kb : b ≠ k
  kr : r ≠ k
  kc : c ≠ k
  ks : s ≠ k
  gb : w0.heap.size ≤ b
  gr : w0.heap.size ≤ r
  gc : w0.heap.size ≤ c
  gs : w0.heap.size ≤ s
def Pair (w0 : World) (k : Nat) (mv qv : Value) (w : World) : Prop :=
  Below w0.heap.size w0 w ∧ ((mv = .pointer none ∧ qv = .pointer none) ∨ ∃ b r c s mo pg bs ex, mv = .pointer (some ⟨b, 0, none⟩) ∧ qv = .pointer (some ⟨c, 0, none⟩) ∧ PS w0 k w b r c s mo pg bs ex)
section
variable {w0 w w' : World} {k b r c s : Nat} {mo : Int} {pg : Nat} {bs : List Int} {ex : List Value} {mv qv : Value}
theorem PS.on0 (h : PS w0 k w b r c s mo pg bs ex) (hb : Below w.heap.size w w') : PS w0 k w' b r c s mo pg bs ex :=
  ⟨h.m.on0 hb, h.q.on0 hb, h.bc, h.bs_, h.rc, h.rs, h.kb, h.kr, h.kc, h.ks, h.gb, h.gr, h.gc, h.gs⟩
theorem Pair.on0 (h : Pair w0 k mv qv w) (hb : Below w.heap.size w w') : Pair w0 k mv qv w' := by
  refine ⟨bel_on h.1 hb, ?_⟩
  rcases h.2 with h2 | ⟨b, r, c, s, mo, pg, bs, ex, e1, e2, h2⟩
  · exact .inl h2
  · exact .inr ⟨b, r, c, s, mo, pg, bs, ex, e1, e2, h2.on0 hb⟩
/-- another block to be kept apart from: one that is new -/
theorem Pair.at_ (h : Pair w0 k mv qv w) : Pair w0 w.heap.size mv qv w := by
  refine ⟨h.1, ?_⟩
  rcases h.2 with h2 | ⟨b, r, c, s, mo, pg, bs, ex, e1, e2, h2⟩
  · exact .inl h2
  · exact .inr ⟨b, r, c, s, mo, pg, bs, ex, e1, e2, ⟨h2.m, h2.q, h2.bc, h2.bs_, h2.rc, h2.rs, by have := h2.m.lt; omega, by have := h2.m.ltr; omega, by have := h2.q.lt; omega, by have := h2.q.ltr; omega, h2.gb, h2.gr, h2.gc, h2.gs⟩⟩
theorem not2 {a x y : Nat} (h1 : a ≠ x) (h2 : a ≠ y) : a ∉ [x, y] := by simp [h1, h2]
theorem not1 {a x : Nat} (h1 : a ≠ x) : a ∉ [x] := by simp [h1]
theorem bel_frm {S : List Nat} (h : Below w0.heap.size w0 w) (hf : Frm S w w') (hS : ∀ k ∈ S, w0.heap.size ≤ k) : Below w0.heap.size w0 w' := hf.below h hS
end
/-- behind the first call: the second one tells the same -/
def Half (w0 : World) (k : Nat) (mv qv : Value) (f : FuncId) (args : Array Value) (v : Value) (w1 : World) : Prop :=
  ∀ w1', Below w1.heap.size w1 w1' → Calls Try.prog f args w1' fun e w2 => e = .returned v ∧ Pair w0 k mv qv w2
theorem Frm.grown {r : Nat} {w w' : World} (h : Frm [r] w w') : w.grownBy w' (some r) := ⟨h.os, h.tape, h.output, h.size, fun k hk hne => h.block k hk (not1 (fun e => hne (by rw [e])))⟩
theorem grown_none {w w' : World} (h : w.grownBy w' none) : Below w.heap.size w w' := ⟨h.os, h.tape, h.output, h.size, fun k hk => h.block k hk (by simp)⟩
theorem none_grown {w w' : World} (h : Below w.heap.size w w') : w.grownBy w' none := ⟨h.os, h.tape, h.output, h.size, fun k hk _ => h.block k hk⟩
/-- the first call: it writes to one block alone (or none), and then the second one tells the same -/
def HalfC {α : Type} (w0 : World) (k : Nat) (mv qv : Value) (f1 f2 : FuncId) (ar1 ar2 : Array Value) (mk : α → Value) (x : Option Nat) (R : World → Prop) : Prop :=
  some k ≠ x ∧ (∀ u u', R u → Below u.heap.size u u' → R u') ∧ ∀ u, R u → Calls Try.prog f1 ar1 u fun e w1 => ∃ g, e = .returned (mk g) ∧ u.grownBy w1 x ∧ Half w0 k mv qv f2 ar2 (mk g) w1
theorem halfC_of {α : Type} {w0 w : World} {k : Nat} {mv qv : Value} (h : Pair w0 k mv qv w) {f1 f2 : FuncId} {ar1 ar2 : Value → Array Value} {mk : α → Value}
    (hN : ∀ u, Pair w0 k (.pointer none) (.pointer none) u → Calls Try.prog f1 (ar1 (.pointer none)) u fun e w1 => ∃ g, e = .returned (mk g) ∧ w1 = u ∧ Half w0 k (.pointer none) (.pointer none) f2 (ar2 (.pointer none)) (mk g) w1)
    (fp : Nat → Nat → Nat) (hfp : ∀ b r, fp b r = b ∨ fp b r = r)
    (hS : ∀ u b r c s mo pg bs ex, Below w0.heap.size w0 u → PS w0 k u b r c s mo pg bs ex → k < u.heap.size → Calls Try.prog f1 (ar1 (.pointer (some ⟨b, 0, none⟩))) u fun e w1 => ∃ g, e = .returned (mk g) ∧ Frm [fp b r] u w1 ∧ Half w0 k (.pointer (some ⟨b, 0, none⟩)) (.pointer (some ⟨c, 0, none⟩)) f2 (ar2 (.pointer (some ⟨c, 0, none⟩))) (mk g) w1)
    (hk : k < w.heap.size) : ∃ x R, R w ∧ HalfC w0 k mv qv f1 f2 (ar1 mv) (ar2 qv) mk x R := by
  rcases h.2 with ⟨rfl, rfl⟩ | ⟨b, r, c, s, mo, pg, bs, ex, rfl, rfl, h2⟩
  · refine ⟨none, Pair w0 k (.pointer none) (.pointer none), h, by simp, fun u u' hu hb => hu.on0 hb, fun u hu => (hN u hu).mono ?_⟩
    rintro e w1 ⟨g, he, rfl, hh⟩
    exact ⟨g, he, none_grown (Below.refl _ _), hh⟩
  · refine ⟨some (fp b r), fun u => Below w0.heap.size w0 u ∧ PS w0 k u b r c s mo pg bs ex ∧ k < u.heap.size, ⟨h.1, h2, hk⟩, ?_, fun u u' hu hb => ⟨bel_on hu.1 hb, hu.2.1.on0 hb, Nat.lt_of_lt_of_le hu.2.2 hb.size⟩, fun u hu => (hS u b r c s mo pg bs ex hu.1 hu.2.1 hu.2.2).mono ?_⟩
    · intro e
      have e' := Option.some.inj e
      rcases hfp b r with h' | h'
      · rw [h'] at e'; exact h2.kb e'.symm
      · rw [h'] at e'; exact h2.kr e'.symm
    · rintro e w1 ⟨g, he, hf, hh⟩
      exact ⟨g, he, hf.grown, hh⟩
end Mm
theorem half_grow {w0 w : World} {k : Nat} {mv qv : Value} (h : Pair w0 k mv qv w) (hk : k < w.heap.size) (n : Nat) :
    ∃ x R, R w ∧ HalfC w0 k mv qv 21 29 #[mv, .int .u64 n] #[qv, .int .u64 n] (fun g : Int => .int .i64 g) x R := by
  refine halfC_of h (ar1 := fun v => #[v, .int .u64 n]) (ar2 := fun v => #[v, .int .u64 n]) ?_ (fun b _ => b) (fun _ _ => .inl rfl) ?_ hk
  · intro w h
    refine (nGrow w n).mono ?_
    rintro e w1 ⟨rfl, rfl⟩
    refine ⟨_, rfl, rfl, fun w1' hb => (zGrow w1' n).mono ?_⟩
    rintro e w2 ⟨rfl, hb2⟩
    exact ⟨rfl, h.on0 (bel_on hb hb2)⟩
  · intro w b r c s mo pg bs ex h1 h2 hk
    have h : Pair w0 k (.pointer (some ⟨b, 0, none⟩)) (.pointer (some ⟨c, 0, none⟩)) w := ⟨h1, .inr ⟨b, r, c, s, mo, pg, bs, ex, rfl, rfl, h2⟩⟩
    by_cases hn : mo - pg < n
    · refine (mGrowN h2.m n hn).mono ?_
      rintro e w1 ⟨rfl, rfl⟩
      refine ⟨_, rfl, Frm.refl _ _, fun w1' hb => (qGrowN (h2.on0 hb).q n hn).mono ?_⟩
      rintro e w2 ⟨rfl, hb2⟩
      exact ⟨rfl, h.on0 (bel_on hb hb2)⟩
    · -- what both leave
      have fin : ∀ (r1 : Nat) (Z : List Int) (w1 : World), r1 ≠ c → r1 ≠ s → r1 ≠ k → w0.heap.size ≤ r1 → r1 < w1.heap.size → Z = List.replicate (n * 65536) 0 → Mem w1 b r1 mo (pg + n) (bs ++ Z) → Frm [b] w w1 → Half w0 k (.pointer (some ⟨b, 0, none⟩)) (.pointer (some ⟨c, 0, none⟩)) 29 #[.pointer (some ⟨c, 0, none⟩), .int .u64 n] (.int .i64 pg) w1 := by
        intro r1 Z w1 e1 e2 e3 e4 e5 hz hm hf w1' hb
        have hq : RM w1' c s mo pg bs ex := (h2.q.on hf (not1 (Ne.symm h2.bc)) (not1 (Ne.symm h2.bs_))).on0 hb
        have hm' := hm.on0 hb
        refine (qGrowY hq n (by omega)).mono ?_
        rintro e w2 ⟨rfl, ⟨s', ex', Z', hs', hq', hz'⟩, hf'⟩
        have hzz : Z' = Z := hz'.out.trans hz.symm
        subst hzz
        have hk1 : k < w1.heap.size := Nat.lt_of_lt_of_le hk hf.size
        have hsz := hb.size
        have l1 := h2.m.lt
        have l2 := hf.size
        have l3 := hq.lt
        have d1 : b ≠ s' := by rcases hs' with rfl | h'; exact h2.bs_; omega
        have d2 : r1 ≠ s' := by rcases hs' with rfl | h'; exact e2; omega
        have d3 : s' ≠ k := by rcases hs' with rfl | h'; exact h2.ks; omega
        have d4 : w0.heap.size ≤ s' := by
          rcases hs' with rfl | h'
          · exact h2.gs
          · have := h.1.size; omega
        have hB1 : Below w0.heap.size w0 w1 := hf.below h.1 (by intro j hj; rw [List.mem_singleton.1 hj]; exact h2.gb)
        have hB2 : Below w0.heap.size w0 w2 := hf'.below (bel_on hB1 hb) (by
          intro j hj
          simp only [List.mem_cons, List.not_mem_nil, or_false] at hj
          rcases hj with rfl | rfl
          · exact h2.gc
          · exact h2.gs)
        exact ⟨rfl, hB2, .inr ⟨b, r1, c, s', mo, pg + n, bs ++ Z', ex', rfl, rfl, ⟨hm'.on hf' (not2 h2.bc h2.bs_) (not2 e1 e2), hq', h2.bc, d1, e1, d2, h2.kb, e3, h2.kc, d3, h2.gb, e4, h2.gc, d4⟩⟩⟩
      by_cases h0 : n = 0
      · subst h0
        have fin0 := fin r [] w h2.rc h2.rs h2.kr h2.gr h2.m.ltr (by simp) (by simpa using h2.m) (Frm.refl _ _)
        refine (mGrow0 h2.m).mono ?_
        rintro e w1 ⟨rfl, rfl⟩
        exact ⟨_, rfl, Frm.refl _ _, fin0⟩
      · refine (mGrowY h2.m n (by omega) (by omega)).mono ?_
        rintro e w1 ⟨rfl, ⟨r1, Z, hr1, hm1, hz⟩, hf⟩
        have l1 := h2.q.lt
        have l2 := h2.q.ltr
        have := h.1.size
        exact ⟨_, rfl, hf, fin r1 Z w1 (by omega) (by omega) (by omega) (by omega) hm1.ltr hz.out hm1 hf⟩
end Go.Proofs.Ytagcdnkgochpnaa
