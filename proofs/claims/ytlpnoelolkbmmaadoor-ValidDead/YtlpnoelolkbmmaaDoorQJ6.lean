/- QJ6: several texts in one. -/
import Derived.Test.YtlpnoelolkbmmaaDoorQJ5
namespace Go.Proofs.YtlpnoelolkbmmaaDoor
open Go.RowKit Rep Val
set_option linter.unusedVariables false
namespace Val
def pz (x : I0) : Pc 0 := (x, .slice none 0 0, .slice none 0 0, .slice none 0 0)
theorem pz_ok (w : World) (S : Nat → Prop) (x : I0) (h : x.labels = []) : PcOk w S (pz x) := ⟨by show IntsS w S (.slice none 0 0) x.labels; rw [h]; exact rnil, ⟨none, 0, rfl⟩, ⟨none, 0, rfl⟩⟩
theorem pz_map (l : List I0) : (l.map pz).map (·.1) = l := by rw [List.map_map]; exact (List.map_congr_left fun x _ => rfl).trans (List.map_id _)
theorem at_row {w : World} {B : Nat} {v : Value} {l : List I0} (hlab : ∀ x ∈ l, x.labels = []) (hn : l.length ≤ 9223372036854775807) (ho : w.ownsRow B 26 7 v l.length (flat7 (l.map pz))) : AtS w (fun k => k < w.heap.size) 1 v l :=
  AtS.keep (fun k hk => ⟨hk.2.1, rfl⟩) 1 v l (at_of_row (d := 0) l (l.map pz) (pz_map l) hn (by rw [List.length_map]; exact ho) (fun p hp => by obtain ⟨x, hx, rfl⟩ := List.mem_map.1 hp; exact pz_ok _ _ x (hlab x hx)))
theorem at_lit (w : World) (cs : Array Value) (l : List I0) (n : Nat) (hl : n = l.length) (hlab : ∀ x ∈ l, x.labels = []) (hn : l.length ≤ 65536) (hc : cs.toList = flat7 (l.map pz)) : AtS (w.alloc (.cells cs 26)) (fun k => k < (w.alloc (.cells cs 26)).heap.size) 1 (.slice (some ⟨w.heap.size, 0, none⟩) n n) l := by
  subst hl
  refine at_row (B := w.heap.size) hlab (by omega) ?_
  have := World.ownsRow_lit (base := w.heap.size) (e := 26) (size := 7) w cs l.length (Nat.le_refl _) (by unfold maxLen; omega) (by rw [← Array.length_toList, hc, flat7_len, List.length_map])
  rw [hc] at this
  exact this
theorem mkMW {w : World} {bv : Value} {l : List I0} (hI : UtfI w) (hA : AtS w (fun k => k < w.heap.size) 1 bv l) (hsm : ∀ x ∈ l, okS (sn x) = true ∧ x.labels = [] ∧ SmI 1 x) (hl : l.length ≤ 1000) :
    MW (d := 0) (mk4 w bv 127) (w.heap.size + 2) (w.heap.size + 3) (.slice (some ⟨w.heap.size + 1, 0, none⟩) 1 1) bv [127] l :=
  let h := mk4_says w bv 127
  ⟨utfI_on h.1 hI, h.2.1, h.2.2.1, at_now h.1 hA, fun x hx => (hsm x hx).2.2, by omega, by decide, chk_flat _ l (.inr (.inl rfl)) (by omega) (fun x hx => (hsm x hx).2.1) (fun x hx => (hsm x hx).1), by decide⟩
theorem sm1 {x : I0} (h : okS (sn x) = true ∧ x.labels = [] ∧ SmI 1 x) : ∀ y ∈ [x], okS (sn y) = true ∧ y.labels = [] ∧ SmI 1 y := fun y hy => by rw [List.mem_singleton.1 hy]; exact h
theorem sm66 : okS (sn (i0 66 0 0)) = true ∧ (i0 66 0 0).labels = [] ∧ SmI 1 (i0 66 0 0) := ⟨ok66, rfl, .inr (.inr (.inr (.inl rfl)))⟩
theorem sm65 : okS (sn (i0 65 0 1)) = true ∧ (i0 65 0 1).labels = [] ∧ SmI 1 (i0 65 0 1) := ⟨ok65 1 (by omega), rfl, .inr (.inr (.inl rfl))⟩
theorem sm26 : okS (sn (i0 26 0 0)) = true ∧ (i0 26 0 0).labels = [] ∧ SmI 1 (i0 26 0 0) := ⟨ok26, rfl, .inr (.inl rfl)⟩
theorem sm00 : okS (sn (i0 0 0 0)) = true ∧ (i0 0 0 0).labels = [] ∧ SmI 1 (i0 0 0 0) := ⟨ok0, rfl, .inl rfl⟩
theorem sm12 : okS (sn (i0 12 1 0)) = true ∧ (i0 12 1 0).labels = [] ∧ SmI 1 (i0 12 1 0) := ⟨ok12, rfl, .inr (.inr (.inr (.inr ⟨rfl, by decide⟩)))⟩
theorem sm3 : ∀ y ∈ [i0 0 0 0, i0 26 0 0, i0 65 0 1], okS (sn y) = true ∧ y.labels = [] ∧ SmI 1 y := fun y hy => by
  simp only [List.mem_cons, List.mem_nil_iff, or_false] at hy
  rcases hy with rfl | rfl | rfl
  · exact sm00
  · exact sm26
  · exact sm65
end Val
set_option maxRecDepth 100000 in
set_option maxHeartbeats 8000000 in
theorem vWakes (w : World) (hI : UtfI w) : Calls Tryd.prog 6 #[] w fun e w' => e = .returned (.bool true) ∧ Below w.heap.size w w' := by
  obtain ⟨w1, hw1⟩ : ∃ w1, w1 = w.alloc (.cells #[.int .i64 65, .int .i64 0, .int .i64 0, .int .i64 1, .slice none 0 0, .slice none 0 0, .slice none 0 0] 26) := ⟨_, rfl⟩
  have hb1 : Below w.heap.size w w1 := by rw [hw1]; exact new_on' _ _
  have hk : w1.heap[w.heap.size]? = some (.cells #[.int .i64 65, .int .i64 0, .int .i64 0, .int .i64 1, .slice none 0 0, .slice none 0 0, .slice none 0 0] 26 (0, 0)) := by rw [hw1]; exact World.alloc_heap_new w _
  have HU := hideR (utfI_on hb1 hI)
  have HB1 := hideR hb1
  have HE := hideR hw1
  have C0 := hideR (cellOf hk (j := 0) rfl)
  have C1 := hideR (cellOf hk (j := 1) rfl)
  have C2 := hideR (cellOf hk (j := 2) rfl)
  have C3 := hideR (cellOf hk (j := 3) rfl)
  have C4 := hideR (cellOf hk (j := 4) rfl)
  have C5 := hideR (cellOf hk (j := 5) rfl)
  have C6 := hideR (cellOf hk (j := 6) rfl)
  clear hb1 hw1 hk hI
  go_enter Tryd.func6, Tryd.ntmps6
  go_upto_region 2 with fail
  rw [← HE.out]
  obtain ⟨u0, hu0⟩ : ∃ u0, u0 = w1 := ⟨_, rfl⟩
  have H0 : Hid (Below w1.heap.size w1 u0) := hideR (below_eq hu0)
  rw [← hu0]
  clear hu0
  go_wp2_with fail
  obtain ⟨x0, hx0⟩ : ∃ x, x = u0.alloc (.cells #[.int .i64 66, .int .i64 0, .int .i64 0, .int .i64 0, .slice none 0 0, .slice none 0 0, .slice none 0 0] 26) := ⟨_, rfl⟩
  have hb : Below u0.heap.size u0 x0 := by rw [hx0]; exact new_on' _ _
  have hA : AtS x0 (fun k => k < x0.heap.size) 1 (.slice (some ⟨u0.heap.size, 0, none⟩) 1 1) [i0 66 0 0] := by rw [hx0]; exact at_lit u0 _ _ 1 rfl (fun x hx => ((sm1 sm66) x hx).2.1) (by decide) rfl
  have HW0 := hideR (mkMW (utfI_on hb (utfI_on H0.out HU.out)) hA (sm1 sm66) (by decide))
  have HL0 := hideR (below_go' H0.out hb)
  rw [← hx0]
  clear hx0 hb hA
  refine (vMake _ _ _ x0).mono ?_
  rintro e v ⟨rfl, rfl⟩
  have HM0 := hideR (below_go' HL0.out (mk4_says x0 (.slice (some ⟨u0.heap.size, 0, none⟩) 1 1) 127).1)
  obtain ⟨y0, hy0⟩ : ∃ y, y = mk4 x0 (.slice (some ⟨u0.heap.size, 0, none⟩) 1 1) 127 := ⟨_, rfl⟩
  rw [← hy0] at HW0 HM0 ⊢
  clear hy0 HL0
  have HX0 := hideR HW0.out.where_
  rw [wk66] at HX0
  clear HW0
  unfold mCells at HX0 ⊢
  go_wp2_with fail
  refine HX0.out.mono ?_
  rintro e u1 ⟨rfl, hb⟩
  have H1 := hideR (below_go' HM0.out hb)
  clear hb HX0 HM0
  have q0 := cell_on H1.out C0.out
  have q1 := cell_on H1.out C1.out
  have q2 := cell_on H1.out C2.out
  have q3 := cell_on H1.out C3.out
  have q4 := cell_on H1.out C4.out
  have q5 := cell_on H1.out C5.out
  have q6 := cell_on H1.out C6.out
  have qa : ∀ o, (u1.alloc o).cell? ⟨w.heap.size, 0, none⟩ = some (.int .i64 65) := fun o => cell_on (new_on' _ o) q0
  go_wp2_with fail
  clear qa q0 q1 q2 q3 q4 q5 q6
  obtain ⟨x1, hx1⟩ : ∃ x, x = u1.alloc (.cells #[.int .i64 65, .int .i64 0, .int .i64 0, .int .i64 1, .slice none 0 0, .slice none 0 0, .slice none 0 0] 26) := ⟨_, rfl⟩
  have hb : Below u1.heap.size u1 x1 := by rw [hx1]; exact new_on' _ _
  have hA : AtS x1 (fun k => k < x1.heap.size) 1 (.slice (some ⟨u1.heap.size, 0, none⟩) 1 1) [i0 65 0 1] := by rw [hx1]; exact at_lit u1 _ _ 1 rfl (fun x hx => ((sm1 sm65) x hx).2.1) (by decide) rfl
  have HW1 := hideR (mkMW (utfI_on hb (utfI_on H1.out HU.out)) hA (sm1 sm65) (by decide))
  have HL1 := hideR (below_go' H1.out hb)
  rw [← hx1]
  clear hx1 hb hA
  refine (vMake _ _ _ x1).mono ?_
  rintro e v ⟨rfl, rfl⟩
  have HM1 := hideR (below_go' HL1.out (mk4_says x1 (.slice (some ⟨u1.heap.size, 0, none⟩) 1 1) 127).1)
  obtain ⟨y1, hy1⟩ : ∃ y, y = mk4 x1 (.slice (some ⟨u1.heap.size, 0, none⟩) 1 1) 127 := ⟨_, rfl⟩
  rw [← hy1] at HW1 HM1 ⊢
  clear hy1 HL1
  have HX1 := hideR HW1.out.validate
  rw [wk65] at HX1
  clear HW1
  unfold mCells at HX1 ⊢
  go_wp2_with fail
  refine HX1.out.mono ?_
  rintro e u2 ⟨rfl, hb⟩
  have H2 := hideR (below_go' HM1.out hb)
  clear hb HX1 HM1
  have q0 := cell_on H2.out C0.out
  have q1 := cell_on H2.out C1.out
  have q2 := cell_on H2.out C2.out
  have q3 := cell_on H2.out C3.out
  have q4 := cell_on H2.out C4.out
  have q5 := cell_on H2.out C5.out
  have q6 := cell_on H2.out C6.out
  have qa : ∀ o, (u2.alloc o).cell? ⟨w.heap.size, 0, none⟩ = some (.int .i64 65) := fun o => cell_on (new_on' _ o) q0
  go_wp2_with fail
  clear qa q0 q1 q2 q3 q4 q5 q6
  obtain ⟨x2, hx2⟩ : ∃ x, x = u2.alloc (.cells #[.int .i64 0, .int .i64 0, .int .i64 0, .int .i64 0, .slice none 0 0, .slice none 0 0, .slice none 0 0, .int .i64 26, .int .i64 0, .int .i64 0, .int .i64 0, .slice none 0 0, .slice none 0 0, .slice none 0 0, .int .i64 65, .int .i64 0, .int .i64 0, .int .i64 1, .slice none 0 0, .slice none 0 0, .slice none 0 0] 26) := ⟨_, rfl⟩
  have hb : Below u2.heap.size u2 x2 := by rw [hx2]; exact new_on' _ _
  have hA : AtS x2 (fun k => k < x2.heap.size) 1 (.slice (some ⟨u2.heap.size, 0, none⟩) 3 3) [i0 0 0 0, i0 26 0 0, i0 65 0 1] := by rw [hx2]; exact at_lit u2 _ _ 3 rfl (fun x hx => (sm3 x hx).2.1) (by decide) rfl
  have HW2 := hideR (mkMW (utfI_on hb (utfI_on H2.out HU.out)) hA sm3 (by decide))
  have HL2 := hideR (below_go' H2.out hb)
  rw [← hx2]
  clear hx2 hb hA
  refine (vMake _ _ _ x2).mono ?_
  rintro e v ⟨rfl, rfl⟩
  have HM2 := hideR (below_go' HL2.out (mk4_says x2 (.slice (some ⟨u2.heap.size, 0, none⟩) 3 3) 127).1)
  obtain ⟨y2, hy2⟩ : ∃ y, y = mk4 x2 (.slice (some ⟨u2.heap.size, 0, none⟩) 3 3) 127 := ⟨_, rfl⟩
  rw [← hy2] at HW2 HM2 ⊢
  clear hy2 HL2
  have HX2 := hideR HW2.out.validate
  rw [wk0] at HX2
  clear HW2
  unfold mCells at HX2 ⊢
  go_wp2_with fail
  refine HX2.out.mono ?_
  rintro e u3 ⟨rfl, hb⟩
  have H3 := hideR (below_go' HM2.out hb)
  clear hb HX2 HM2
  have q0 := cell_on H3.out C0.out
  have q1 := cell_on H3.out C1.out
  have q2 := cell_on H3.out C2.out
  have q3 := cell_on H3.out C3.out
  have q4 := cell_on H3.out C4.out
  have q5 := cell_on H3.out C5.out
  have q6 := cell_on H3.out C6.out
  have qa : ∀ o, (u3.alloc o).cell? ⟨w.heap.size, 0, none⟩ = some (.int .i64 65) := fun o => cell_on (new_on' _ o) q0
  go_wp2_with fail
  clear qa q0 q1 q2 q3 q4 q5 q6
  obtain ⟨x3, hx3⟩ : ∃ x, x = u3.alloc (.cells #[.int .i64 12, .int .i64 1, .int .i64 0, .int .i64 0, .slice none 0 0, .slice none 0 0, .slice none 0 0] 26) := ⟨_, rfl⟩
  have hb : Below u3.heap.size u3 x3 := by rw [hx3]; exact new_on' _ _
  have hA : AtS x3 (fun k => k < x3.heap.size) 1 (.slice (some ⟨u3.heap.size, 0, none⟩) 1 1) [i0 12 1 0] := by rw [hx3]; exact at_lit u3 _ _ 1 rfl (fun x hx => ((sm1 sm12) x hx).2.1) (by decide) rfl
  have HW3 := hideR (mkMW (utfI_on hb (utfI_on H3.out HU.out)) hA (sm1 sm12) (by decide))
  have HL3 := hideR (below_go' H3.out hb)
  rw [← hx3]
  clear hx3 hb hA
  refine (vMake _ _ _ x3).mono ?_
  rintro e v ⟨rfl, rfl⟩
  have HM3 := hideR (below_go' HL3.out (mk4_says x3 (.slice (some ⟨u3.heap.size, 0, none⟩) 1 1) 127).1)
  obtain ⟨y3, hy3⟩ : ∃ y, y = mk4 x3 (.slice (some ⟨u3.heap.size, 0, none⟩) 1 1) 127 := ⟨_, rfl⟩
  rw [← hy3] at HW3 HM3 ⊢
  clear hy3 HL3
  have HX3 := hideR HW3.out.validate
  rw [wk12] at HX3
  clear HW3
  unfold mCells at HX3 ⊢
  go_wp2_with fail
  refine HX3.out.mono ?_
  rintro e u4 ⟨rfl, hb⟩
  have H4 := hideR (below_go' HM3.out hb)
  clear hb HX3 HM3
  go_wp2
  go_ret
  exact ⟨rfl, below_go' HB1.out H4.out⟩
end Go.Proofs.YtlpnoelolkbmmaaDoor

namespace Go.Proofs.YtlpnoelolkbmmaaDoor
open Go.RowKit Rep Val
set_option linter.unusedVariables false
namespace Val
theorem tmod_rg (a n : Int) (h : 1 ≤ n) : 0 ≤ (a.tmod n + n).tmod n ∧ (a.tmod n + n).tmod n < n := by
  have h1 : -n < a.tmod n := by
    have := Int.tmod_add_mul_tdiv a n
    by_cases ha : 0 ≤ a
    · have := Int.tmod_nonneg n ha; omega
    · have h2 : (-a).tmod n < n := Int.tmod_lt_of_pos _ (by omega)
      rw [Int.neg_tmod] at h2
      omega
  have h2 : 0 ≤ (a.tmod n + n).tmod n := Int.tmod_nonneg n (by omega)
  exact ⟨h2, Int.tmod_lt_of_pos _ (by omega)⟩
end Val
set_option maxRecDepth 100000 in
set_option maxHeartbeats 4000000 in
theorem vMod (a n : Int) (w : World) (h1 : 1 ≤ n) (h2 : n ≤ 20000) : Calls Tryd.prog 4 #[.int .i64 a, .int .i64 n] w fun e w' => (∃ r : Nat, e = .returned (.int .i64 r) ∧ (r : Int) < n) ∧ w' = w := by
  have d1 : decide (n < (1 : Int)) = false := decide_eq_false (by omega)
  have n0 : (n == 0) = false := by rw [beq_eq_false_iff_ne]; omega
  have n1 : (n == -1) = false := by rw [beq_eq_false_iff_ne]; omega
  have hz : n ≠ 0 := by omega
  have hr := tmod_rg a n h1
  have hq : -n < a.tmod n ∧ a.tmod n < n := by
    have hx : a.tmod n < n := Int.tmod_lt_of_pos _ (by omega)
    refine ⟨?_, hx⟩
    by_cases ha : 0 ≤ a
    · have := Int.tmod_nonneg n ha; omega
    · have h2 : (-a).tmod n < n := Int.tmod_lt_of_pos _ (by omega)
      rw [Int.neg_tmod] at h2
      omega
  have hr9 : 0 ≤ (a.tmod n + n) % n ∧ (a.tmod n + n) % n < n := ⟨Int.emod_nonneg _ hz, Int.emod_lt_of_pos _ (by omega)⟩
  obtain ⟨r, hr2⟩ : ∃ r : Nat, (r : Int) = (a.tmod n + n) % n := ⟨((a.tmod n + n) % n).toNat, by omega⟩
  go_enter Tryd.func4, Tryd.ntmps4
  go_wp2
  go_ret
  exact ⟨⟨r, by rw [hr2]; rfl, by omega⟩, rfl⟩
end Go.Proofs.YtlpnoelolkbmmaaDoor
