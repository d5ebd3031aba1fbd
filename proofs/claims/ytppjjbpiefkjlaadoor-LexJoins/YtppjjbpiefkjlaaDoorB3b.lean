/- Tokens: LexJoins, on. -/
import Derived.Test.YtppjjbpiefkjlaaDoorB3
import Derived.Test.YtppjjbpiefkjlaaDoorP0
namespace Go.Proofs.YtppjjbpiefkjlaaDoor
open Go.RowKit Lx
set_option linter.unusedVariables false
set_option maxRecDepth 100000 in
set_option maxHeartbeats 8000000 in
theorem joins2 (s t : ByteArray) (hz : ¬ 4000 < s.size + t.size) (w : World) (hWL : WL w) (he : (lx s).2.2 = 0) (he2 : (lx t).2.2 ≠ 0) :
    Calls Tryd.prog 4 #[.string s, .string t] w fun e w' => e = .returned (.bool true) ∧ Below w.heap.size w w' := by
  obtain ⟨U, hU⟩ : ∃ U, U = s ++ ⟨#[10]⟩ ++ t := ⟨_, rfl⟩
  have hj := lx_join s t U (by rw [hU]; exact (ext_of s t).1) (by rw [hU]; exact (ext_of s t).2) (by omega)
  rcases hj with ⟨k1, _⟩ | ⟨k1, _, k2, k4⟩ | ⟨_, k1, _⟩
  case inl => exact absurd he k1
  case inr.inr => exact absurd k1 he2
  obtain ⟨hwa, q0, hc1, hc2⟩ := jA hz
  have H1 := hideR (pLexO s w hWL)
  have H2 := fun (u : World) (hb : Below w.heap.size w u) => hideR (pLexO t u (hWL.on hb))
  have H3 := fun (u : World) (hb : Below w.heap.size w u) => hideR (pLexO U u (hWL.on hb))
  have HWk := fun (u : World) (hb : Below w.heap.size w u) => hideR (lWakes u (hWL.on hb))
  rw [k2] at H3
  generalize lx s = R at *
  obtain ⟨L, pl, er⟩ := R
  simp only at k1 he
  subst he
  generalize lx t = R2 at *
  obtain ⟨L2, pl2, er2⟩ := R2
  simp only at k2 k4 he2
  have q1 := ne_of he2
  have q2 := eqI_self er2
  obtain ⟨pu, hpu⟩ : ∃ pu, pu = ((s.size + 1 : Nat) : Int) + pl2 := ⟨_, rfl⟩
  have q3 : decide (pu > (s.size : Int)) = true := decide_eq_true (by rw [hpu]; omega)
  simp only [← hpu] at H3
  have hsl := hU.symm
  clear hU hWL k1 k2 k4 hz he2 hpu
  go_enter Tryd.func4, Tryd.ntmps4
  go_wp2_with fail
  refine H1.out.mono ?_
  rintro e u1 ⟨v1, rfl, hT1, hb1⟩
  have HB1 := hideR hb1
  clear hT1 hb1 H1
  go_wp2_with fail
  refine (H2 _ HB1.out).out.mono ?_
  rintro e u2 ⟨v2, rfl, hT2, hb2⟩
  have HB2 := hideR (below_go HB1.out hb2)
  clear hT2 hb2 HB1 H2
  go_wp2_with fail
  refine (H3 _ HB2.out).out.mono ?_
  rintro e u3 ⟨v3, rfl, hT3, hb3⟩
  obtain ⟨o3, c3, rfl⟩ := own_slice hT3
  have HB3 := hideR (below_go HB2.out hb3)
  clear hT3 hb3 HB2 H3
  go_wp2_with fail
  refine (HWk _ HB3.out).out.mono ?_
  rintro e u4 ⟨rfl, hb4⟩
  have HB4 := hideR (below_go HB3.out hb4)
  clear hb4 HB3 HWk
  go_wp2
  go_ret
  exact ⟨rfl, HB4.out⟩
set_option maxRecDepth 100000 in
set_option maxHeartbeats 8000000 in
theorem joins3 (s t : ByteArray) (hz : ¬ 4000 < s.size + t.size) (w : World) (hWL : WL w) (he : (lx s).2.2 = 0) (he2 : (lx t).2.2 = 0) :
    Calls Tryd.prog 4 #[.string s, .string t] w fun e w' => e = .returned (.bool true) ∧ Below w.heap.size w w' := by
  obtain ⟨U, hU⟩ : ∃ U, U = s ++ ⟨#[10]⟩ ++ t := ⟨_, rfl⟩
  have hj := lx_join s t U (by rw [hU]; exact (ext_of s t).1) (by rw [hU]; exact (ext_of s t).2) (by omega)
  rcases hj with ⟨k1, _⟩ | ⟨_, k1, _⟩ | ⟨_, _, k2⟩
  case inl => exact absurd he k1
  case inr.inl => exact absurd he2 k1
  have HAt := hideR (lx_at t)
  have HLu := lx_len U
  rw [k2] at HLu
  have HLt := hideR (lx_len t)
  have HZ := hideR hz
  obtain ⟨hwa, q0, hc1, hc2⟩ := jA hz
  have H1 := hideR (pLexO s w hWL)
  have H2 := fun (u : World) (hb : Below w.heap.size w u) => hideR (pLexO t u (hWL.on hb))
  have H3 := fun (u : World) (hb : Below w.heap.size w u) => hideR (pLexO U u (hWL.on hb))
  have HWk := fun (u : World) (hb : Below w.heap.size w u) => hideR (lWakes u (hWL.on hb))
  rw [k2] at H3
  generalize lx s = R at *
  obtain ⟨L, pl, er⟩ := R
  simp only at he
  subst he
  generalize lx t = R2 at *
  obtain ⟨L2, pl2, er2⟩ := R2
  simp only at he2
  subst he2
  have hsl := hU.symm
  have HLU : Hid ((L ++ shf (s.size + 1) L2).length ≤ 4096) := hideR HLu
  have HLt : Hid (L2.length ≤ 4096) := HLt
  have HAt : Hid (∀ t' ∈ L2, 0 ≤ t'.a ∧ t'.a ≤ (t.size : Int)) := HAt
  obtain ⟨i0, hi, hz0, hz1, hz2⟩ := info_parts infoTk
  have hws : wrap64 ((s.size : Int) + 1) = ((s.size + 1 : Nat) : Int) := (jC (a := 0) HZ.out ⟨Int.le_refl _, Int.natCast_nonneg _⟩).1
  obtain ⟨M, hM⟩ : ∃ M : Nat, M = s.size + 1 := ⟨_, rfl⟩
  have HM := hideR hM
  rw [← hM] at hws HLU H3
  clear hU hWL k2 hz HLu hM
  go_enter Tryd.func4, Tryd.ntmps4
  go_wp2_with fail
  refine H1.out.mono ?_
  rintro e u1 ⟨v1, rfl, hT1, hb1⟩
  have HB1 := hideR hb1
  have HO1 := hideR hT1
  clear hT1 hb1 H1
  go_wp2_with fail
  refine (H2 _ HB1.out).out.mono ?_
  rintro e u2 ⟨v2, rfl, hT2, hb2⟩
  have HB2 := hideR (below_go HB1.out hb2)
  have HO1b := hideR (own_on HO1.out hb2)
  have HO2 := hideR hT2
  have HLT : Hid (∀ g, v1.ownBlock = some g → g < u1.heap.size) := hideR fun g h => (HO1.out.lt g h).2
  have HS12 := hideR hb2.size
  clear hT2 hb2 HB1 H2 HO1
  go_wp2_with fail
  refine (H3 _ HB2.out).out.mono ?_
  rintro e u3 ⟨v3, rfl, hT3, hb3⟩
  have HB3 := hideR (below_go HB2.out hb3)
  have HO1c : Hid (u3.ownsRow w.heap.size 32 4 v1 (L ++ shf M (L2.take 0)).length (flat (L ++ shf M (L2.take 0)))) := hideR (by
    have := own_on HO1b.out hb3
    rw [List.take_zero, show shf M [] = [] from rfl, List.append_nil]
    exact this)
  have HT2 := hideR (tkAt_own (own_on HO2.out hb3))
  have HT3 := hideR (tkAt_own hT3)
  have HAP : Hid ((∀ g, v2.ownBlock = some g → g < u3.heap.size ∧ v1.ownBlock ≠ some g) ∧ ∀ g, v3.ownBlock = some g → g < u3.heap.size ∧ v1.ownBlock ≠ some g) := hideR ⟨fun g h => by
      have h2 := HO2.out.lt g h
      exact ⟨Nat.lt_of_lt_of_le h2.2 hb3.size, fun e => by have h1 := HLT.out g e; omega⟩, fun g h => by
      have h2 := hT3.lt g h
      exact ⟨h2.2, fun e => by have h1 := HLT.out g e; have h5 := HS12.out; omega⟩⟩
  clear hT3 hb3 HB2 H3 HO1b HO2 HLT HS12
  obtain ⟨o2, c2, hv2⟩ := HT2.out.len
  have hv2 : v2 = .slice o2 L2.length c2 := hv2
  subst hv2
  go_wp2_with fail
  go_loopw [5, 14] (fun v x w' => ∃ j : Nat, x = .int .i64 j ∧ j ≤ L2.length ∧ Hid (Below w.heap.size w w') ∧ Hid (w'.ownsRow w.heap.size 32 4 v (L ++ shf M (L2.take j)).length (flat (L ++ shf M (L2.take j)))) ∧ Hid (TkAt w' (.slice o2 L2.length c2) L2) ∧ Hid (TkAt w' v3 (L ++ shf M L2)) ∧ Hid ((∀ g, (Value.slice o2 L2.length c2).ownBlock = some g → g < w'.heap.size ∧ v.ownBlock ≠ some g) ∧ ∀ g, v3.ownBlock = some g → g < w'.heap.size ∧ v.ownBlock ≠ some g)) (fun _ x _ => match x with | .int _ j => L2.length - j.toNat | _ => 0)
  case atStart => exact ⟨0, rfl, Nat.zero_le _, HB3, HO1c, HT2, HT3, HAP⟩
  case round =>
    clear HB3 HO1c HT2 HT3 HAP
    obtain ⟨j, rfl, hj, HB, HO, HT2, HT3, HAP⟩ := hrel
    by_cases hjl : j < L2.length
    · have q1 := aT hjl
      have hw1 := aU (k := j) (by have := HLt.out; omega)
      obtain ⟨tt, ht⟩ : ∃ t, L2[j]? = some t := ⟨_, List.getElem?_eq_getElem hjl⟩
      have hta := HAt.out tt (List.mem_of_getElem? ht)
      obtain ⟨g, cg, hvg, hcells⟩ := HT2.out.some (by omega)
      injection hvg with ho2 _ hcg
      subst ho2
      have y0 : wr.cell? ⟨g, j * 4, none⟩ = some (.int .i64 tt.k) := hcells j tt ht 0 _ rfl
      have y1 : wr.cell? ⟨g, j * 4 + 1, none⟩ = some (.string tt.x) := hcells j tt ht 1 _ rfl
      have y2 : wr.cell? ⟨g, j * 4 + 2, none⟩ = some (.int .i64 tt.n) := hcells j tt ht 2 _ rfl
      have y3 : wr.cell? ⟨g, j * 4 + 3, none⟩ = some (.int .i64 tt.a) := hcells j tt ht 3 _ rfl
      have HTS := hideR (take_snoc ht)
      obtain ⟨tk, tx, tn, ta⟩ := tt
      simp only at y0 y1 y2 y3 hta
      have hwt : wrap64 (ta + (M : Int)) = (M : Int) + ta := by rw [HM.out]; exact (jC HZ.out hta).2
      have hwt2 : wrap64 (ta + ((s.size : Int) + 1)) = (M : Int) + ta := by rw [← hwt, HM.out]; rfl
      obtain ⟨pa, hpa⟩ : ∃ pa, pa = (M : Int) + ta := ⟨_, rfl⟩
      rw [← hpa] at hwt hwt2
      have HPA := hideR hpa
      have hlen : (L ++ shf M (L2.take j)).length + 1 ≤ 4096 := by
        have h1 := HLU.out
        rw [List.length_append, shf_len] at h1 ⊢
        rw [List.length_take]
        omega
      have HL := hideR hlen
      have z1 : g < wr.heap.size := World.block_lt_of_cell? _ _ y0
      obtain ⟨o5, c5, hv5⟩ := own_slice HO.out
      subst hv5
      clear ht hta hcells hcg hpa hlen
      generalize hacc : L ++ shf M (L2.take j) = acc at *
      have HACC := hideR hacc
      clear hacc
      go_wp2_with (first | (at_builtin; refine wpList_app rfl _ _ 23 rfl w.heap.size 32 i0 _ 4 40 Tryd.underlying23 hi hz0 hz1 hz2 rfl (by decide) _ acc.length (flat acc) rfl ((HO.out.alloc _).alloc _) ⟨wr.heap.size + 1, 0, none⟩ 1 1 [.int .i64 tk, .string tx, .int .i64 tn, .int .i64 pa] rfl rfl ?c1 (one4 tk tx tn pa) (aP _ HL.out).1 (aP _ HL.out).2 (aQ HB.out _ _) ?c6))
      case c6 =>
        intro v' w9 hown' hgr hvb
        obtain ⟨p1, p2⟩ := apart_on HAP.out.1 hgr hvb
        obtain ⟨p3, p4⟩ := apart_on HAP.out.2 hgr hvb
        have HB3 := hideR (bel_two HB.out HO.out _ _ hgr)
        have HO3 : Hid (w9.ownsRow w.heap.size 32 4 v' (L ++ shf M (L2.take (j + 1))).length (flat (L ++ shf M (L2.take (j + 1))))) := hideR (by
          rw [HTS.out, shf_app, ← List.append_assoc, HACC.out]
          have := own_snoc hown'
          rw [HPA.out] at this
          exact this)
        have HT2' := hideR (HT2.out.keep p1)
        have HT3' := hideR (HT3.out.keep p3)
        have HAP' := hideR (And.intro p2 p4)
        clear hown' hgr hvb p1 p2 p3 p4 HB HO HT2 HT3 HAP HTS HACC HPA HL y0 y1 y2 y3 z1 hwt hwt2
        go_wp2
        go_roundw
        case rel => exact ⟨j + 1, by first | rfl | (congr 1), hjl, HB3, HO3, HT2', HT3', HAP'⟩
        case measure => simp only [hw1]; clear hw1 hws hwa; simp; omega
    · obtain rfl : j = L2.length := by omega
      have q1 := aK L2.length L2.length (Nat.lt_irrefl _)
      have hO := HO.out
      rw [List.take_length] at hO
      have HS := hideR (rSame v3 u5 (L ++ shf M L2) (L ++ shf M L2) true wr HT3.out (tkAt_own hO) rfl HLU.out fun i t u h1 h2 => by
        obtain rfl : t = u := by rw [h1] at h2; exact Option.some.inj h2
        exact ⟨rfl, rfl, rfl, fun _ => rfl⟩)
      clear hO HO HT2 HT3 HAP
      go_wp2_with fail
      refine HS.out.mono ?_
      rintro e u4 ⟨rfl, hb4⟩
      have HB4 := hideR (below_go HB.out hb4)
      clear hb4 HB HS
      go_wp2_with fail
      refine (HWk _ HB4.out).out.mono ?_
      rintro e u5' ⟨rfl, hb5⟩
      have HB5 := hideR (below_go HB4.out hb5)
      clear hb5 HB4 HWk
      go_wp2
      go_ret
      exact ⟨rfl, HB5.out⟩
end Go.Proofs.YtppjjbpiefkjlaaDoor
