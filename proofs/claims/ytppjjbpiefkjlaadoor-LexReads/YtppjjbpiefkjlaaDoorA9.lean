/- Tokens: the document's one token. -/
import Derived.Test.YtppjjbpiefkjlaaDoorA6
import Derived.Test.YtppjjbpiefkjlaaDoorA8
namespace Go.Proofs.YtppjjbpiefkjlaaDoor
open Go.RowKit Lx
set_option linter.unusedVariables false
namespace Lx
/-- what one token is told as -/
def oOut (a : Int) : Except Int (Int × ByteArray × Int × Nat) → Value
  | .ok (k, x, n, e) => .tuple #[.agg #[.int .i64 k, .string x, .int .i64 n, .int .i64 a], .int .i64 e, .int .i64 0]
  | .error z => .tuple #[.agg #[.int .i64 0, .string ⟨#[]⟩, .int .i64 0, .int .i64 0], .int .i64 0, .int .i64 z]
theorem smcp {c : Int} (h : sm c = true) : cp c = false := by
  unfold sm at h; unfold cp
  rw [Bool.and_eq_true, decide_eq_true_eq, decide_eq_true_eq] at h
  rw [decide_eq_false (by omega : ¬ c ≤ 90), Bool.and_false]
/-- a token in a block of its own -/
structure Tb (b : Nat) (a0 a1 a2 a3 : Value) (u : World) : Prop where
  blk : u.heap[b]? = some (.cells #[a0, a1, a2, a3] 32 (0, 0))
section
variable {b : Nat} {a0 a1 a2 a3 : Value} {u u' w : World}
theorem Tb.cell (h : Tb b a0 a1 a2 a3 u) (j : Nat) (v : Value) (hv : #[a0, a1, a2, a3][j]? = some v) : u.cell? ⟨b, j, none⟩ = some v := by
  unfold World.cell?; rw [h.blk]; exact hv
theorem Tb.frz (h : Tb b a0 a1 a2 a3 u) (j : Nat) : u.frozen? ⟨b, j, none⟩ = false := by unfold World.frozen?; rw [h.blk]; simp
theorem Tb.on (h : Tb b a0 a1 a2 a3 u) (hb : Below u.heap.size u u') : Tb b a0 a1 a2 a3 u' :=
  ⟨by rw [hb.block _ (Array.getElem?_eq_some_iff.1 h.blk).1]; exact h.blk⟩
theorem Tb.set0 (h : Tb b a0 a1 a2 a3 u) (v : Value) : Tb b v a1 a2 a3 (u.setCell ⟨b, 0, none⟩ v) := ⟨heap_setCell_same u b 0 _ _ _ h.blk⟩
theorem Tb.set3 (h : Tb b a0 a1 a2 a3 u) (v : Value) : Tb b a0 a1 a2 v (u.setCell ⟨b, 3, none⟩ v) := ⟨heap_setCell_same u b 3 _ _ _ h.blk⟩
theorem Tb.range (h : Tb b a0 a1 a2 a3 u) : u.rangeAt b 0 [a0, a1, a2, a3] := fun j v hv => by
  rw [Nat.zero_add]
  exact h.cell j v (by rw [← hv]; simp)
theorem Tb.new (w : World) (hb : b = w.heap.size) : Tb b a0 a1 a2 a3 (w.alloc (.cells #[a0, a1, a2, a3] 32)) := ⟨by subst hb; exact heap_alloc_new w _⟩
theorem An.set (h : An w u) (hb : w.heap.size < b) (j : Nat) (v : Value) : An w (u.setCell ⟨b, j, none⟩ v) :=
  ⟨by rw [Below.heap_setCell _ _ _ _ (by show w.heap.size ≠ b; omega)]; exact h.blk, h.bel.setCell (show w.heap.size ≤ b by omega) _⟩
theorem An.new (h : An w u) (o : Obj) : An w (u.alloc o) := h.on ((Below.refl _ u).alloc (Nat.le_refl _) _)
end
theorem underTk : ∃ d, Tryd.prog.underlying 32 = some d ∧ d.isRow = true := ⟨_, Tryd.underlying32, rfl⟩
end Lx
set_option maxRecDepth 100000 in
set_option maxHeartbeats 8000000 in
theorem rOneLow (s : ByteArray) (i : Nat) (hi : i < s.size) (h63 : s.size < 4611686018427387904) (w : World) (hc : sm (bt s i) = true) : Calls Tryd.prog 13 #[.string s, .int .i64 i] w fun e w' => e = .returned (oOut i (one s i)) ∧ Below w.heap.size w w' := by
  have hx := fun (w : World) => idx_bt s i hi w (P := Tryd.prog) 9 Tryd.underlying9
  have hwsz := wA_size w
  have he0 := en_ge s pt i
  have he1 := en_le s pt (Nat.le_of_lt hi)
  have HR := hideR (rRun s i (Nat.le_of_lt hi) (by omega) (wA w))
  have HS := fun (u : World) => hideR (rSmall (bt s i) u)
  have HCp := fun (u : World) => hideR (rCapital (bt s i) u)
  have hcp := smcp hc
  have hone : one s i = if 32 < en s pt i - i then .error 2 else .ok (if amg (s.extract i (en s pt i)) keys = true then 5 else 1, s.extract i (en s pt i), 0, en s pt i) := by unfold one; rw [if_pos (.inl hc), hcp]; rfl
  simp only [hc] at HS
  simp only [hcp] at HCp
  generalize en s pt i = E at *
  have hwL : wrap64 ((E : Int) - (i : Int)) = (E : Int) - (i : Int) := by unfold wrap64; omega
  by_cases h32 : 32 < E - i
  · have q1 : decide ((E : Int) - (i : Int) > 32) = true := decide_eq_true (by omega)
    rw [if_pos h32] at hone
    rw [hone]
    have HO : Hid (oOut i (.error 2) = .tuple #[.agg #[.int .i64 0, .string ⟨#[]⟩, .int .i64 0, .int .i64 0], .int .i64 0, .int .i64 2]) := hideR rfl
    generalize oOut i (.error 2) = OUT at HO ⊢
    clear hone
    obtain ⟨W2, hW2, hth, z5, z6, z7, z8, hbl⟩ := (An.start w).put (.int .i64 0) (.string ⟨#[]⟩) (.int .i64 0) (.int .i64 0)
    have HW2 := hideR hW2; have HTH := hideR hth; have HBL := hideR hbl; clear hW2 hth hbl
    generalize bt s i = c at *
    go_enter Tryd.func13, Tryd.ntmps13
    go_wp2_with fail
    refine (HS _).out.mono ?_
    rintro e u ⟨rfl, rfl⟩
    go_wp2_with fail
    refine Calls.mono (show Calls _ _ _ _ _ from HR.out) ?_
    rintro e u ⟨rfl, rfl⟩
    go_wp2_with (refine wpList_store_mid rfl 32 (.tmp 4) (.tmp 33) rfl w.heap.size 0 #[.int .i64 0, .string ⟨#[]⟩, .int .i64 0, .int .i64 0] rfl rfl HTH.out sizeTk (by simp [Value.oneCell']) ?_; rw [HW2.out])
    refine bodyPost_ret (v := .tuple #[.agg #[.int .i64 0, .string ⟨#[]⟩, .int .i64 0, .int .i64 0], .int .i64 0, .int .i64 2]) (by simp [results, Tryd.results13, go_sem, z5, z6, z7, z8]) rfl ⟨congrArg _ HO.out.symm, HBL.out⟩
  · have q1 : decide ((E : Int) - (i : Int) > 32) = false := decide_eq_false (by omega)
    rw [if_neg h32] at hone
    rw [hone]
    obtain ⟨x, hx1⟩ : ∃ x, x = s.extract i E := ⟨_, rfl⟩
    have HK := hideR (rKey x ((wA w).alloc (.cells #[.int .i64 1, .string x, .int .i64 0, .int .i64 i] 32)))
    have hsl : s.extract i E = x := hx1.symm
    rw [← hx1]
    have T0 := hideR (Tb.new (a0 := .int .i64 1) (a1 := .string x) (a2 := .int .i64 0) (a3 := .int .i64 i) (wA w) (b := w.heap.size + 1) (wA_size w).symm)
    have A0 := hideR ((An.start w).new (.cells #[.int .i64 1, .string x, .int .i64 0, .int .i64 i] 32))
    clear hone hx1
    generalize bt s i = c at *
    generalize amg x keys = kb at *
    cases kb with
    | true =>
      rw [if_pos rfl]
      have HO : Hid (oOut i (.ok (5, x, 0, E)) = .tuple #[.agg #[.int .i64 5, .string x, .int .i64 0, .int .i64 i], .int .i64 E, .int .i64 0]) := hideR rfl
      generalize oOut i (.ok (5, x, 0, E)) = OUT at HO ⊢
      go_enter Tryd.func13, Tryd.ntmps13
      go_wp2_with fail
      refine (HS _).out.mono ?_
      rintro e u ⟨rfl, rfl⟩
      go_wp2_with fail
      refine Calls.mono (show Calls _ _ _ _ _ from HR.out) ?_
      rintro e u ⟨rfl, rfl⟩
      go_wp2_with fail
      refine Calls.mono (show Calls _ _ _ _ _ from HK.out) ?_
      rintro e u ⟨rfl, hb⟩
      have T1 := T0.out.on hb
      have A1 := A0.out.on hb
      clear hb
      have hRA := (T1.set0 (.int .i64 5)).range; have HRA := hideR hRA; clear hRA
      obtain ⟨W2, hW2, hth, z5, z6, z7, z8, hbl⟩ := ((A1.set (b := w.heap.size + 1) (by omega) 0 (.int .i64 5))).put (.int .i64 5) (.string x) (.int .i64 0) (.int .i64 i)
      have HW2 := hideR hW2; have HTH := hideR hth; have HBL := hideR hbl; clear hW2 hth hbl
      have cA := T1.cell 0 _ rfl; have fA := T1.frz 0
      clear T1 A1
      go_wp2_with fail
      refine (HCp _).out.mono ?_
      rintro e u ⟨rfl, rfl⟩
      go_wp2_with (first | (refine wpList_load_mid rfl 32 (.tmp 9) rfl (w.heap.size + 1) 0 rfl [.int .i64 5, .string x, .int .i64 0, .int .i64 i] _ HRA.out Tryd.underlying32 rfl sizeTk ?_) | (refine wpList_store_mid rfl 32 (.tmp 4) (.tmp 47) rfl w.heap.size 0 #[.int .i64 5, .string x, .int .i64 0, .int .i64 i] rfl rfl HTH.out sizeTk (by simp [Value.oneCell']) ?_; rw [HW2.out]))
      refine bodyPost_ret (v := .tuple #[.agg #[.int .i64 5, .string x, .int .i64 0, .int .i64 i], .int .i64 E, .int .i64 0]) (by simp [results, Tryd.results13, go_sem, z5, z6, z7, z8]) rfl ⟨congrArg _ HO.out.symm, HBL.out⟩
    | false =>
      rw [if_neg (by decide)]
      have HO : Hid (oOut i (.ok (1, x, 0, E)) = .tuple #[.agg #[.int .i64 1, .string x, .int .i64 0, .int .i64 i], .int .i64 E, .int .i64 0]) := hideR rfl
      generalize oOut i (.ok (1, x, 0, E)) = OUT at HO ⊢
      go_enter Tryd.func13, Tryd.ntmps13
      go_wp2_with fail
      refine (HS _).out.mono ?_
      rintro e u ⟨rfl, rfl⟩
      go_wp2_with fail
      refine Calls.mono (show Calls _ _ _ _ _ from HR.out) ?_
      rintro e u ⟨rfl, rfl⟩
      go_wp2_with fail
      refine Calls.mono (show Calls _ _ _ _ _ from HK.out) ?_
      rintro e u ⟨rfl, hb⟩
      have T1 := T0.out.on hb
      have A1 := A0.out.on hb
      clear hb
      have hRA := T1.range; have HRA := hideR hRA; clear hRA
      obtain ⟨W2, hW2, hth, z5, z6, z7, z8, hbl⟩ := (A1).put (.int .i64 1) (.string x) (.int .i64 0) (.int .i64 i)
      have HW2 := hideR hW2; have HTH := hideR hth; have HBL := hideR hbl; clear hW2 hth hbl
      have cA := T1.cell 0 _ rfl; have fA := T1.frz 0
      clear T1 A1
      go_wp2_with fail
      refine (HCp _).out.mono ?_
      rintro e u ⟨rfl, rfl⟩
      go_wp2_with (first | (refine wpList_load_mid rfl 32 (.tmp 9) rfl (w.heap.size + 1) 0 rfl [.int .i64 1, .string x, .int .i64 0, .int .i64 i] _ HRA.out Tryd.underlying32 rfl sizeTk ?_) | (refine wpList_store_mid rfl 32 (.tmp 4) (.tmp 47) rfl w.heap.size 0 #[.int .i64 1, .string x, .int .i64 0, .int .i64 i] rfl rfl HTH.out sizeTk (by simp [Value.oneCell']) ?_; rw [HW2.out]))
      refine bodyPost_ret (v := .tuple #[.agg #[.int .i64 1, .string x, .int .i64 0, .int .i64 i], .int .i64 E, .int .i64 0]) (by simp [results, Tryd.results13, go_sem, z5, z6, z7, z8]) rfl ⟨congrArg _ HO.out.symm, HBL.out⟩
set_option maxRecDepth 100000 in
set_option maxHeartbeats 8000000 in
theorem rOneUp (s : ByteArray) (i : Nat) (hi : i < s.size) (h63 : s.size < 4611686018427387904) (w : World) (hc : cp (bt s i) = true) : Calls Tryd.prog 13 #[.string s, .int .i64 i] w fun e w' => e = .returned (oOut i (one s i)) ∧ Below w.heap.size w w' := by
  have hx := fun (w : World) => idx_bt s i hi w (P := Tryd.prog) 9 Tryd.underlying9
  have hwsz := wA_size w
  have he0 := en_ge s pt i
  have he1 := en_le s pt (Nat.le_of_lt hi)
  have HR := hideR (rRun s i (Nat.le_of_lt hi) (by omega) (wA w))
  have HS := fun (u : World) => hideR (rSmall (bt s i) u)
  have HCp := fun (u : World) => hideR (rCapital (bt s i) u)
  have hsm : sm (bt s i) = false := by cases h : sm (bt s i); rfl; rw [smcp h] at hc; cases hc
  have hone : one s i = if 32 < en s pt i - i then .error 2 else .ok (2, s.extract i (en s pt i), 0, en s pt i) := by unfold one; rw [if_pos (.inr hc), hc]; rfl
  simp only [hsm] at HS
  simp only [hc] at HCp
  generalize en s pt i = E at *
  have hwL : wrap64 ((E : Int) - (i : Int)) = (E : Int) - (i : Int) := by unfold wrap64; omega
  by_cases h32 : 32 < E - i
  · have q1 : decide ((E : Int) - (i : Int) > 32) = true := decide_eq_true (by omega)
    rw [if_pos h32] at hone
    rw [hone]
    have HO : Hid (oOut i (.error 2) = .tuple #[.agg #[.int .i64 0, .string ⟨#[]⟩, .int .i64 0, .int .i64 0], .int .i64 0, .int .i64 2]) := hideR rfl
    generalize oOut i (.error 2) = OUT at HO ⊢
    clear hone
    obtain ⟨W2, hW2, hth, z5, z6, z7, z8, hbl⟩ := (An.start w).put (.int .i64 0) (.string ⟨#[]⟩) (.int .i64 0) (.int .i64 0)
    have HW2 := hideR hW2; have HTH := hideR hth; have HBL := hideR hbl; clear hW2 hth hbl
    generalize bt s i = c at *
    go_enter Tryd.func13, Tryd.ntmps13
    go_wp2_with fail
    refine (HS _).out.mono ?_
    rintro e u ⟨rfl, rfl⟩
    go_wp2_with fail
    refine (HCp _).out.mono ?_
    rintro e u ⟨rfl, rfl⟩
    go_wp2_with fail
    refine Calls.mono (show Calls _ _ _ _ _ from HR.out) ?_
    rintro e u ⟨rfl, rfl⟩
    go_wp2_with (refine wpList_store_mid rfl 32 (.tmp 4) (.tmp 33) rfl w.heap.size 0 #[.int .i64 0, .string ⟨#[]⟩, .int .i64 0, .int .i64 0] rfl rfl HTH.out sizeTk (by simp [Value.oneCell']) ?_; rw [HW2.out])
    refine bodyPost_ret (v := .tuple #[.agg #[.int .i64 0, .string ⟨#[]⟩, .int .i64 0, .int .i64 0], .int .i64 0, .int .i64 2]) (by simp [results, Tryd.results13, go_sem, z5, z6, z7, z8]) rfl ⟨congrArg _ HO.out.symm, HBL.out⟩
  · have q1 : decide ((E : Int) - (i : Int) > 32) = false := decide_eq_false (by omega)
    rw [if_neg h32] at hone
    rw [hone]
    obtain ⟨x, hx1⟩ : ∃ x, x = s.extract i E := ⟨_, rfl⟩
    have HK := hideR (rKey x ((wA w).alloc (.cells #[.int .i64 1, .string x, .int .i64 0, .int .i64 i] 32)))
    have hsl : s.extract i E = x := hx1.symm
    rw [← hx1]
    have T0 := hideR (Tb.new (a0 := .int .i64 1) (a1 := .string x) (a2 := .int .i64 0) (a3 := .int .i64 i) (wA w) (b := w.heap.size + 1) (wA_size w).symm)
    have A0 := hideR ((An.start w).new (.cells #[.int .i64 1, .string x, .int .i64 0, .int .i64 i] 32))
    clear hone hx1
    generalize bt s i = c at *
    have HO : Hid (oOut i (.ok (2, x, 0, E)) = .tuple #[.agg #[.int .i64 2, .string x, .int .i64 0, .int .i64 i], .int .i64 E, .int .i64 0]) := hideR rfl
    generalize oOut i (.ok (2, x, 0, E)) = OUT at HO ⊢
    generalize amg x keys = kb at *
    cases kb with
    | true =>
      go_enter Tryd.func13, Tryd.ntmps13
      go_wp2_with fail
      refine (HS _).out.mono ?_
      rintro e u ⟨rfl, rfl⟩
      go_wp2_with fail
      refine (HCp _).out.mono ?_
      rintro e u ⟨rfl, rfl⟩
      go_wp2_with fail
      refine Calls.mono (show Calls _ _ _ _ _ from HR.out) ?_
      rintro e u ⟨rfl, rfl⟩
      go_wp2_with fail
      refine Calls.mono (show Calls _ _ _ _ _ from HK.out) ?_
      rintro e u ⟨rfl, hb⟩
      have T1 := T0.out.on hb
      have A1 := A0.out.on hb
      clear hb
      have hRA := ((T1.set0 (.int .i64 5)).set0 (.int .i64 2)).range; have HRA := hideR hRA; clear hRA
      obtain ⟨W2, hW2, hth, z5, z6, z7, z8, hbl⟩ := (((A1.set (b := w.heap.size + 1) (by omega) 0 (.int .i64 5)).set (b := w.heap.size + 1) (by omega) 0 (.int .i64 2))).put (.int .i64 2) (.string x) (.int .i64 0) (.int .i64 i)
      have HW2 := hideR hW2; have HTH := hideR hth; have HBL := hideR hbl; clear hW2 hth hbl
      have cA := T1.cell 0 _ rfl; have fA := T1.frz 0
      have cB := (T1.set0 (.int .i64 5)).cell 0 _ rfl; have fB := (T1.set0 (.int .i64 5)).frz 0
      clear T1 A1
      go_wp2_with fail
      refine (HCp _).out.mono ?_
      rintro e u ⟨rfl, rfl⟩
      go_wp2_with (first | (refine wpList_load_mid rfl 32 (.tmp 9) rfl (w.heap.size + 1) 0 rfl [.int .i64 2, .string x, .int .i64 0, .int .i64 i] _ HRA.out Tryd.underlying32 rfl sizeTk ?_) | (refine wpList_store_mid rfl 32 (.tmp 4) (.tmp 47) rfl w.heap.size 0 #[.int .i64 2, .string x, .int .i64 0, .int .i64 i] rfl rfl HTH.out sizeTk (by simp [Value.oneCell']) ?_; rw [HW2.out]))
      refine bodyPost_ret (v := .tuple #[.agg #[.int .i64 2, .string x, .int .i64 0, .int .i64 i], .int .i64 E, .int .i64 0]) (by simp [results, Tryd.results13, go_sem, z5, z6, z7, z8]) rfl ⟨congrArg _ HO.out.symm, HBL.out⟩
    | false =>
      go_enter Tryd.func13, Tryd.ntmps13
      go_wp2_with fail
      refine (HS _).out.mono ?_
      rintro e u ⟨rfl, rfl⟩
      go_wp2_with fail
      refine (HCp _).out.mono ?_
      rintro e u ⟨rfl, rfl⟩
      go_wp2_with fail
      refine Calls.mono (show Calls _ _ _ _ _ from HR.out) ?_
      rintro e u ⟨rfl, rfl⟩
      go_wp2_with fail
      refine Calls.mono (show Calls _ _ _ _ _ from HK.out) ?_
      rintro e u ⟨rfl, hb⟩
      have T1 := T0.out.on hb
      have A1 := A0.out.on hb
      clear hb
      have hRA := (T1.set0 (.int .i64 2)).range; have HRA := hideR hRA; clear hRA
      obtain ⟨W2, hW2, hth, z5, z6, z7, z8, hbl⟩ := ((A1.set (b := w.heap.size + 1) (by omega) 0 (.int .i64 2))).put (.int .i64 2) (.string x) (.int .i64 0) (.int .i64 i)
      have HW2 := hideR hW2; have HTH := hideR hth; have HBL := hideR hbl; clear hW2 hth hbl
      have cA := T1.cell 0 _ rfl; have fA := T1.frz 0
      clear T1 A1
      go_wp2_with fail
      refine (HCp _).out.mono ?_
      rintro e u ⟨rfl, rfl⟩
      go_wp2_with (first | (refine wpList_load_mid rfl 32 (.tmp 9) rfl (w.heap.size + 1) 0 rfl [.int .i64 2, .string x, .int .i64 0, .int .i64 i] _ HRA.out Tryd.underlying32 rfl sizeTk ?_) | (refine wpList_store_mid rfl 32 (.tmp 4) (.tmp 47) rfl w.heap.size 0 #[.int .i64 2, .string x, .int .i64 0, .int .i64 i] rfl rfl HTH.out sizeTk (by simp [Value.oneCell']) ?_; rw [HW2.out]))
      refine bodyPost_ret (v := .tuple #[.agg #[.int .i64 2, .string x, .int .i64 0, .int .i64 i], .int .i64 E, .int .i64 0]) (by simp [results, Tryd.results13, go_sem, z5, z6, z7, z8]) rfl ⟨congrArg _ HO.out.symm, HBL.out⟩
set_option maxRecDepth 100000 in
set_option maxHeartbeats 8000000 in
theorem rOneVar (s : ByteArray) (i : Nat) (hi : i < s.size) (h63 : s.size < 4611686018427387904) (w : World) (hc : bt s i = 39) : Calls Tryd.prog 13 #[.string s, .int .i64 i] w fun e w' => e = .returned (oOut i (one s i)) ∧ Below w.heap.size w w' := by
  have hx := fun (w : World) => idx_bt s i hi w (P := Tryd.prog) 9 Tryd.underlying9
  have hsm : sm (bt s i) = false := by rw [hc]; rfl
  have hcp : cp (bt s i) = false := by rw [hc]; rfl
  have q39 : (bt s i == 39) = true := beq_iff_eq.2 hc
  have hone : one s i = if i + 1 = s.size ∨ sm (bt s (i + 1)) = false then .error 110 else if 32 < en s pt (i + 1) - (i + 1) then .error 2 else .ok (3, s.extract (i + 1) (en s pt (i + 1)), 0, en s pt (i + 1)) := by
    unfold one; rw [if_neg (by rw [hsm, hcp]; rintro (h | h) <;> cases h), if_pos hc]
  have HS := fun (u : World) => hideR (rSmall (bt s i) u)
  have HCp := fun (u : World) => hideR (rCapital (bt s i) u)
  simp only [hsm] at HS
  simp only [hcp] at HCp
  obtain ⟨j, hj⟩ : ∃ j : Nat, j = i + 1 := ⟨_, rfl⟩
  rw [← hj] at hone
  have hw1 : wrap64 ((i : Int) + 1) = (j : Int) := by unfold wrap64; omega
  have hw1b : (i : Int) + 1 = (j : Int) := by omega
  have hwsz := wA_size w
  clear hc
  by_cases hend : j = s.size
  · have qe : ((j : Int) == (s.size : Int)) = true := beq_iff_eq.2 (by omega)
    rw [if_pos (.inl hend)] at hone
    rw [hone]
    have HO : Hid (oOut i (.error 110) = .tuple #[.agg #[.int .i64 0, .string ⟨#[]⟩, .int .i64 0, .int .i64 0], .int .i64 0, .int .i64 110]) := hideR rfl
    generalize oOut i (.error 110) = OUT at HO ⊢
    clear hone hend hj
    generalize bt s i = c at *
    go_enter Tryd.func13, Tryd.ntmps13
    go_wp2_with fail
    refine (HS _).out.mono ?_
    rintro e u ⟨rfl, rfl⟩
    go_wp2_with fail
    refine (HCp _).out.mono ?_
    rintro e u ⟨rfl, rfl⟩
    go_wp2
    refine bodyPost_ret (v := .tuple #[.agg #[.int .i64 0, .string ⟨#[]⟩, .int .i64 0, .int .i64 0], .int .i64 0, .int .i64 110]) (by simp [results, Tryd.results13, go_sem]) rfl ⟨congrArg _ HO.out.symm, wA_below w⟩
  · have qe : ((j : Int) == (s.size : Int)) = false := beq_eq_false_iff_ne.2 (by omega)
    have hjs : j < s.size := by omega
    have hy := fun (w : World) => idx_bt s j hjs w (P := Tryd.prog) 9 Tryd.underlying9
    have HS2 := fun (u : World) => hideR (rSmall (bt s j) u)
    cases hs2 : sm (bt s j) with
    | false =>
      rw [if_pos (.inr hs2)] at hone
      rw [hone]
      have HO : Hid (oOut i (.error 110) = .tuple #[.agg #[.int .i64 0, .string ⟨#[]⟩, .int .i64 0, .int .i64 0], .int .i64 0, .int .i64 110]) := hideR rfl
      generalize oOut i (.error 110) = OUT at HO ⊢
      simp only [hs2] at HS2
      clear hone hj
      generalize bt s i = c at *
      generalize bt s j = c2 at *
      go_enter Tryd.func13, Tryd.ntmps13
      go_wp2_with fail
      refine (HS _).out.mono ?_
      rintro e u ⟨rfl, rfl⟩
      go_wp2_with fail
      refine (HCp _).out.mono ?_
      rintro e u ⟨rfl, rfl⟩
      go_wp2_with fail
      refine (HS2 _).out.mono ?_
      rintro e u ⟨rfl, rfl⟩
      go_wp2
      refine bodyPost_ret (v := .tuple #[.agg #[.int .i64 0, .string ⟨#[]⟩, .int .i64 0, .int .i64 0], .int .i64 0, .int .i64 110]) (by simp [results, Tryd.results13, go_sem]) rfl ⟨congrArg _ HO.out.symm, wA_below w⟩
    | true =>
      rw [if_neg (by rintro (h | h); exact hend h; rw [hs2] at h; cases h)] at hone
      simp only [hs2] at HS2
      have he0 := en_ge s pt j
      have he1 := en_le s pt (Nat.le_of_lt hjs)
      have HR := hideR (rRun s j (Nat.le_of_lt hjs) (by omega) (wA w))
      generalize en s pt j = E at *
      have hwL : wrap64 ((E : Int) - (i : Int)) = (E : Int) - (i : Int) := by unfold wrap64; omega
      have hwM : wrap64 ((E : Int) - (i : Int) - 1) = (E : Int) - (j : Int) := by unfold wrap64; omega
      have hwN : (E : Int) - (i : Int) - 1 = (E : Int) - (j : Int) := by omega
      by_cases h32 : 32 < E - j
      · have q1 : decide ((E : Int) - (j : Int) > 32) = true := decide_eq_true (by omega)
        rw [if_pos h32] at hone
        rw [hone]
        have HO : Hid (oOut i (.error 2) = .tuple #[.agg #[.int .i64 0, .string ⟨#[]⟩, .int .i64 0, .int .i64 0], .int .i64 0, .int .i64 2]) := hideR rfl
        generalize oOut i (.error 2) = OUT at HO ⊢
        clear hone hj
        obtain ⟨W2, hW2, hth, z5, z6, z7, z8, hbl⟩ := (An.start w).put (.int .i64 0) (.string ⟨#[]⟩) (.int .i64 0) (.int .i64 0)
        have HW2 := hideR hW2; have HTH := hideR hth; have HBL := hideR hbl; clear hW2 hth hbl
        generalize bt s i = c at *
        generalize bt s j = c2 at *
        go_enter Tryd.func13, Tryd.ntmps13
        go_wp2_with fail
        refine (HS _).out.mono ?_
        rintro e u ⟨rfl, rfl⟩
        go_wp2_with fail
        refine (HCp _).out.mono ?_
        rintro e u ⟨rfl, rfl⟩
        go_wp2_with fail
        refine (HS2 _).out.mono ?_
        rintro e u ⟨rfl, rfl⟩
        go_wp2_with fail
        refine Calls.mono (show Calls _ _ _ _ _ from HR.out) ?_
        rintro e u ⟨rfl, rfl⟩
        go_wp2_with (refine wpList_store_mid rfl 32 (.tmp 4) (.tmp 75) rfl w.heap.size 0 #[.int .i64 0, .string ⟨#[]⟩, .int .i64 0, .int .i64 0] rfl rfl HTH.out sizeTk (by simp [Value.oneCell']) ?_; rw [HW2.out])
        refine bodyPost_ret (v := .tuple #[.agg #[.int .i64 0, .string ⟨#[]⟩, .int .i64 0, .int .i64 0], .int .i64 0, .int .i64 2]) (by simp [results, Tryd.results13, go_sem, z5, z6, z7, z8]) rfl ⟨congrArg _ HO.out.symm, HBL.out⟩
      · have q1 : decide ((E : Int) - (j : Int) > 32) = false := decide_eq_false (by omega)
        rw [if_neg h32] at hone
        rw [hone]
        obtain ⟨x, hx1⟩ : ∃ x, x = s.extract j E := ⟨_, rfl⟩
        have hsl : s.extract j E = x := hx1.symm
        rw [← hx1]
        have HO : Hid (oOut i (.ok (3, x, 0, E)) = .tuple #[.agg #[.int .i64 3, .string x, .int .i64 0, .int .i64 i], .int .i64 E, .int .i64 0]) := hideR rfl
        generalize oOut i (.ok (3, x, 0, E)) = OUT at HO ⊢
        clear hone hx1 hj
        obtain ⟨W2, hW2, hth, z5, z6, z7, z8, hbl⟩ := (An.start w).put (.int .i64 3) (.string x) (.int .i64 0) (.int .i64 i)
        have HW2 := hideR hW2; have HTH := hideR hth; have HBL := hideR hbl; clear hW2 hth hbl
        generalize bt s i = c at *
        generalize bt s j = c2 at *
        go_enter Tryd.func13, Tryd.ntmps13
        go_wp2_with fail
        refine (HS _).out.mono ?_
        rintro e u ⟨rfl, rfl⟩
        go_wp2_with fail
        refine (HCp _).out.mono ?_
        rintro e u ⟨rfl, rfl⟩
        go_wp2_with fail
        refine (HS2 _).out.mono ?_
        rintro e u ⟨rfl, rfl⟩
        go_wp2_with fail
        refine Calls.mono (show Calls _ _ _ _ _ from HR.out) ?_
        rintro e u ⟨rfl, rfl⟩
        go_wp2_with (refine wpList_store_mid rfl 32 (.tmp 4) (.tmp 82) rfl w.heap.size 0 #[.int .i64 3, .string x, .int .i64 0, .int .i64 i] rfl rfl HTH.out sizeTk (by simp [Value.oneCell']) ?_; rw [HW2.out])
        refine bodyPost_ret (v := .tuple #[.agg #[.int .i64 3, .string x, .int .i64 0, .int .i64 i], .int .i64 E, .int .i64 0]) (by simp [results, Tryd.results13, go_sem, z5, z6, z7, z8]) rfl ⟨congrArg _ HO.out.symm, HBL.out⟩
set_option maxRecDepth 100000 in
set_option maxHeartbeats 8000000 in
theorem rOneNumT (s : ByteArray) (i : Nat) (hi : i < s.size) (h63 : s.size < 4611686018427387904) (w : World) (hc : bt s i = 126) : Calls Tryd.prog 13 #[.string s, .int .i64 i] w fun e w' => e = .returned (oOut i (one s i)) ∧ Below w.heap.size w w' := by
  have hx := fun (w : World) => idx_bt s i hi w (P := Tryd.prog) 9 Tryd.underlying9
  have hsm : sm (bt s i) = false := by rw [hc]; rfl
  have hcp : cp (bt s i) = false := by rw [hc]; rfl
  have h39 : bt s i ≠ 39 := by rw [hc]; decide
  have h126 : (bt s i == 126) = true := beq_iff_eq.2 hc
  have hor : bt s i = 126 ∨ dg (bt s i) = true := .inl hc
  obtain ⟨f, hf⟩ : ∃ f : Nat, f = i + 1 := ⟨_, rfl⟩
  have hif : (if bt s i = 126 then i + 1 else i) = f := by rw [if_pos hc, hf]
  have hw1 : wrap64 ((i : Int) + 1) = (f : Int) := by unfold wrap64; omega
  have hw1b : (i : Int) + 1 = (f : Int) := by omega
  have q39 : (bt s i == 39) = false := beq_eq_false_iff_ne.2 h39
  have hone : one s i = (match num s i f with | some (n, e) => .ok (4, ⟨#[]⟩, n, e) | none => .error 110) := by
    unfold one; rw [if_neg (by rw [hsm, hcp]; rintro (h | h) <;> cases h), if_neg h39, if_pos hor, hif]; cases num s i f <;> rfl
  have HS := fun (u : World) => hideR (rSmall (bt s i) u)
  have HCp := fun (u : World) => hideR (rCapital (bt s i) u)
  simp only [hsm] at HS
  simp only [hcp] at HCp
  have hwsz := wA_size w
  have HN := hideR (rNum s i f (by omega) (by omega) (by omega) (wA w))
  rw [hone]
  clear hone hif h39 hor hc
  generalize bt s i = c at *
  cases hn : num s i f with
  | some p =>
    obtain ⟨n, e'⟩ := p
    have HNS : Hid (∀ K T N A E ok, NumS s i f K T N A E ok → K = 4 ∧ T = ⟨#[]⟩ ∧ N = n ∧ A = i ∧ E = e' ∧ ok = true) := hideR fun K T N A E ok h => by unfold NumS at h; rw [hn] at h; exact h
    have HO : Hid (oOut i (.ok (4, ⟨#[]⟩, n, e')) = .tuple #[.agg #[.int .i64 4, .string ⟨#[]⟩, .int .i64 n, .int .i64 i], .int .i64 (e' : Nat), .int .i64 0]) := hideR rfl
    show Calls _ _ _ _ fun e w' => e = .returned (oOut i (.ok (4, ⟨#[]⟩, n, e'))) ∧ _
    generalize oOut i (.ok (4, ⟨#[]⟩, n, e')) = OUT at HO ⊢
    clear hn
    clear hf
    go_enter Tryd.func13, Tryd.ntmps13
    go_wp2_with fail
    refine (HS _).out.mono ?_
    rintro e u ⟨rfl, rfl⟩
    go_wp2_with fail
    refine (HCp _).out.mono ?_
    rintro e u ⟨rfl, rfl⟩
    go_wp2_with fail
    refine Calls.mono (show Calls _ _ _ _ _ from HN.out) ?_
    rintro e u ⟨⟨K, T, N, A, E, ok, rfl, hNS⟩, hb⟩
    have hus : w.heap.size < u.heap.size := by have := hb.size; rw [hwsz] at this; omega
    obtain ⟨rfl, rfl, rfl, rfl, rfl, rfl⟩ := HNS.out _ _ _ _ _ _ hNS
    have A0 := ((An.start w).on hb).new (.cells #[.int .i64 4, .string ⟨#[]⟩, .int .i64 N, .int .i64 i] 32)
    have T0 := Tb.new (a0 := .int .i64 4) (a1 := .string ⟨#[]⟩) (a2 := .int .i64 N) (a3 := .int .i64 i) u (b := u.heap.size) rfl
    have hRA := T0.range; have HRA := hideR hRA; clear hRA T0 hb hNS HNS
    obtain ⟨W2, hW2, hth, z5, z6, z7, z8, hbl⟩ := (A0).put (.int .i64 4) (.string ⟨#[]⟩) (.int .i64 N) (.int .i64 i)
    have HW2 := hideR hW2; have HTH := hideR hth; have HBL := hideR hbl; clear hW2 hth hbl
    clear A0
    go_wp2_with (first | (refine wpList_load_mid rfl 32 (.tmp 12) rfl u.heap.size 0 rfl [.int .i64 4, .string ⟨#[]⟩, .int .i64 N, .int .i64 i] _ HRA.out Tryd.underlying32 rfl sizeTk ?_) | (refine wpList_store_mid rfl 32 (.tmp 4) (.tmp 107) rfl w.heap.size 0 #[.int .i64 4, .string ⟨#[]⟩, .int .i64 N, .int .i64 i] rfl rfl HTH.out sizeTk (by simp [Value.oneCell']) ?_; rw [HW2.out]))
    refine bodyPost_ret (v := .tuple #[.agg #[.int .i64 4, .string ⟨#[]⟩, .int .i64 N, .int .i64 i], .int .i64 (e' : Nat), .int .i64 0]) (by simp [results, Tryd.results13, go_sem, z5, z6, z7, z8]) rfl ⟨congrArg _ HO.out.symm, HBL.out⟩
  | none =>
    have HNS : Hid (∀ K T N A E ok, NumS s i f K T N A E ok → ok = false) := hideR fun K T N A E ok h => by unfold NumS at h; rw [hn] at h; exact h
    have HO : Hid (oOut i (.error 110) = .tuple #[.agg #[.int .i64 0, .string ⟨#[]⟩, .int .i64 0, .int .i64 0], .int .i64 0, .int .i64 110]) := hideR rfl
    show Calls _ _ _ _ fun e w' => e = .returned (oOut i (.error 110)) ∧ _
    generalize oOut i (.error 110) = OUT at HO ⊢
    clear hn
    clear hf
    go_enter Tryd.func13, Tryd.ntmps13
    go_wp2_with fail
    refine (HS _).out.mono ?_
    rintro e u ⟨rfl, rfl⟩
    go_wp2_with fail
    refine (HCp _).out.mono ?_
    rintro e u ⟨rfl, rfl⟩
    go_wp2_with fail
    refine Calls.mono (show Calls _ _ _ _ _ from HN.out) ?_
    rintro e u ⟨⟨K, T, N, A, E, ok, rfl, hNS⟩, hb⟩
    have hus : w.heap.size < u.heap.size := by have := hb.size; rw [hwsz] at this; omega
    obtain rfl := HNS.out _ _ _ _ _ _ hNS
    have A0 := ((An.start w).on hb).new (.cells #[.int .i64 K, .string T, .int .i64 N, .int .i64 A] 32)
    clear hb hNS HNS
    obtain ⟨W2, hW2, hth, z5, z6, z7, z8, hbl⟩ := (A0).put (.int .i64 0) (.string ⟨#[]⟩) (.int .i64 0) (.int .i64 0)
    have HW2 := hideR hW2; have HTH := hideR hth; have HBL := hideR hbl; clear hW2 hth hbl
    clear A0
    go_wp2_with (refine wpList_store_mid rfl 32 (.tmp 4) (.tmp 106) rfl w.heap.size 0 #[.int .i64 0, .string ⟨#[]⟩, .int .i64 0, .int .i64 0] rfl rfl HTH.out sizeTk (by simp [Value.oneCell']) ?_; rw [HW2.out])
    refine bodyPost_ret (v := .tuple #[.agg #[.int .i64 0, .string ⟨#[]⟩, .int .i64 0, .int .i64 0], .int .i64 0, .int .i64 110]) (by simp [results, Tryd.results13, go_sem, z5, z6, z7, z8]) rfl ⟨congrArg _ HO.out.symm, HBL.out⟩
set_option maxRecDepth 100000 in
set_option maxHeartbeats 8000000 in
theorem rOneNumN (s : ByteArray) (i : Nat) (hi : i < s.size) (h63 : s.size < 4611686018427387904) (w : World) (hc : dg (bt s i) = true) : Calls Tryd.prog 13 #[.string s, .int .i64 i] w fun e w' => e = .returned (oOut i (one s i)) ∧ Below w.heap.size w w' := by
  have hx := fun (w : World) => idx_bt s i hi w (P := Tryd.prog) 9 Tryd.underlying9
  have hd := dg_bd hc
  have hsm : sm (bt s i) = false := by unfold sm; rw [decide_eq_false (by omega)]; rfl
  have hcp : cp (bt s i) = false := by unfold cp; rw [decide_eq_false (by omega)]; rfl
  have h39 : bt s i ≠ 39 := by omega
  have h126 : (bt s i == 126) = false := beq_eq_false_iff_ne.2 (by omega)
  have hor : bt s i = 126 ∨ dg (bt s i) = true := .inr hc
  obtain ⟨f, hf⟩ : ∃ f : Nat, f = i := ⟨_, rfl⟩
  have hif : (if bt s i = 126 then i + 1 else i) = f := by rw [if_neg (by omega), hf]
  have HDg := fun (u : World) => hideR (rDigit (bt s i) u)
  simp only [hc] at HDg
  have q39 : (bt s i == 39) = false := beq_eq_false_iff_ne.2 h39
  have hone : one s i = (match num s i f with | some (n, e) => .ok (4, ⟨#[]⟩, n, e) | none => .error 110) := by
    unfold one; rw [if_neg (by rw [hsm, hcp]; rintro (h | h) <;> cases h), if_neg h39, if_pos hor, hif]; cases num s i f <;> rfl
  have HS := fun (u : World) => hideR (rSmall (bt s i) u)
  have HCp := fun (u : World) => hideR (rCapital (bt s i) u)
  simp only [hsm] at HS
  simp only [hcp] at HCp
  have hwsz := wA_size w
  have HN := hideR (rNum s i f (by omega) (by omega) (by omega) (wA w))
  rw [hone]
  clear hone hif h39 hor hc hd
  generalize bt s i = c at *
  cases hn : num s i f with
  | some p =>
    obtain ⟨n, e'⟩ := p
    have HNS : Hid (∀ K T N A E ok, NumS s i f K T N A E ok → K = 4 ∧ T = ⟨#[]⟩ ∧ N = n ∧ A = i ∧ E = e' ∧ ok = true) := hideR fun K T N A E ok h => by unfold NumS at h; rw [hn] at h; exact h
    have HO : Hid (oOut i (.ok (4, ⟨#[]⟩, n, e')) = .tuple #[.agg #[.int .i64 4, .string ⟨#[]⟩, .int .i64 n, .int .i64 i], .int .i64 (e' : Nat), .int .i64 0]) := hideR rfl
    show Calls _ _ _ _ fun e w' => e = .returned (oOut i (.ok (4, ⟨#[]⟩, n, e'))) ∧ _
    generalize oOut i (.ok (4, ⟨#[]⟩, n, e')) = OUT at HO ⊢
    clear hn
    subst hf
    go_enter Tryd.func13, Tryd.ntmps13
    go_wp2_with fail
    refine (HS _).out.mono ?_
    rintro e u ⟨rfl, rfl⟩
    go_wp2_with fail
    refine (HCp _).out.mono ?_
    rintro e u ⟨rfl, rfl⟩
    go_wp2_with fail
    refine (HDg _).out.mono ?_
    rintro e u ⟨rfl, rfl⟩
    go_wp2_with fail
    refine Calls.mono (show Calls _ _ _ _ _ from HN.out) ?_
    rintro e u ⟨⟨K, T, N, A, E, ok, rfl, hNS⟩, hb⟩
    have hus : w.heap.size < u.heap.size := by have := hb.size; rw [hwsz] at this; omega
    obtain ⟨rfl, rfl, rfl, rfl, rfl, rfl⟩ := HNS.out _ _ _ _ _ _ hNS
    have A0 := ((An.start w).on hb).new (.cells #[.int .i64 4, .string ⟨#[]⟩, .int .i64 N, .int .i64 f] 32)
    have T0 := Tb.new (a0 := .int .i64 4) (a1 := .string ⟨#[]⟩) (a2 := .int .i64 N) (a3 := .int .i64 f) u (b := u.heap.size) rfl
    have hRA := T0.range; have HRA := hideR hRA; clear hRA T0 hb hNS HNS
    obtain ⟨W2, hW2, hth, z5, z6, z7, z8, hbl⟩ := (A0).put (.int .i64 4) (.string ⟨#[]⟩) (.int .i64 N) (.int .i64 f)
    have HW2 := hideR hW2; have HTH := hideR hth; have HBL := hideR hbl; clear hW2 hth hbl
    clear A0
    go_wp2_with (first | (refine wpList_load_mid rfl 32 (.tmp 12) rfl u.heap.size 0 rfl [.int .i64 4, .string ⟨#[]⟩, .int .i64 N, .int .i64 f] _ HRA.out Tryd.underlying32 rfl sizeTk ?_) | (refine wpList_store_mid rfl 32 (.tmp 4) (.tmp 107) rfl w.heap.size 0 #[.int .i64 4, .string ⟨#[]⟩, .int .i64 N, .int .i64 f] rfl rfl HTH.out sizeTk (by simp [Value.oneCell']) ?_; rw [HW2.out]))
    refine bodyPost_ret (v := .tuple #[.agg #[.int .i64 4, .string ⟨#[]⟩, .int .i64 N, .int .i64 f], .int .i64 (e' : Nat), .int .i64 0]) (by simp [results, Tryd.results13, go_sem, z5, z6, z7, z8]) rfl ⟨congrArg _ HO.out.symm, HBL.out⟩
  | none =>
    have HNS : Hid (∀ K T N A E ok, NumS s i f K T N A E ok → ok = false) := hideR fun K T N A E ok h => by unfold NumS at h; rw [hn] at h; exact h
    have HO : Hid (oOut i (.error 110) = .tuple #[.agg #[.int .i64 0, .string ⟨#[]⟩, .int .i64 0, .int .i64 0], .int .i64 0, .int .i64 110]) := hideR rfl
    show Calls _ _ _ _ fun e w' => e = .returned (oOut i (.error 110)) ∧ _
    generalize oOut i (.error 110) = OUT at HO ⊢
    clear hn
    subst hf
    go_enter Tryd.func13, Tryd.ntmps13
    go_wp2_with fail
    refine (HS _).out.mono ?_
    rintro e u ⟨rfl, rfl⟩
    go_wp2_with fail
    refine (HCp _).out.mono ?_
    rintro e u ⟨rfl, rfl⟩
    go_wp2_with fail
    refine (HDg _).out.mono ?_
    rintro e u ⟨rfl, rfl⟩
    go_wp2_with fail
    refine Calls.mono (show Calls _ _ _ _ _ from HN.out) ?_
    rintro e u ⟨⟨K, T, N, A, E, ok, rfl, hNS⟩, hb⟩
    have hus : w.heap.size < u.heap.size := by have := hb.size; rw [hwsz] at this; omega
    obtain rfl := HNS.out _ _ _ _ _ _ hNS
    have A0 := ((An.start w).on hb).new (.cells #[.int .i64 K, .string T, .int .i64 N, .int .i64 A] 32)
    clear hb hNS HNS
    obtain ⟨W2, hW2, hth, z5, z6, z7, z8, hbl⟩ := (A0).put (.int .i64 0) (.string ⟨#[]⟩) (.int .i64 0) (.int .i64 0)
    have HW2 := hideR hW2; have HTH := hideR hth; have HBL := hideR hbl; clear hW2 hth hbl
    clear A0
    go_wp2_with (refine wpList_store_mid rfl 32 (.tmp 4) (.tmp 106) rfl w.heap.size 0 #[.int .i64 0, .string ⟨#[]⟩, .int .i64 0, .int .i64 0] rfl rfl HTH.out sizeTk (by simp [Value.oneCell']) ?_; rw [HW2.out])
    refine bodyPost_ret (v := .tuple #[.agg #[.int .i64 0, .string ⟨#[]⟩, .int .i64 0, .int .i64 0], .int .i64 0, .int .i64 110]) (by simp [results, Tryd.results13, go_sem, z5, z6, z7, z8]) rfl ⟨congrArg _ HO.out.symm, HBL.out⟩
set_option maxRecDepth 100000 in
set_option maxHeartbeats 8000000 in
theorem rOneSign (s : ByteArray) (i : Nat) (hi : i < s.size) (h63 : s.size < 4611686018427387904) (w : World) (hsm : sm (bt s i) = false) (hcp : cp (bt s i) = false) (h39 : bt s i ≠ 39) (h126 : bt s i ≠ 126) (hdg : dg (bt s i) = false) : Calls Tryd.prog 13 #[.string s, .int .i64 i] w fun e w' => e = .returned (oOut i (one s i)) ∧ Below w.heap.size w w' := by
  have hx := fun (w : World) => idx_bt s i hi w (P := Tryd.prog) 9 Tryd.underlying9
  have q39 : (bt s i == 39) = false := beq_eq_false_iff_ne.2 h39
  have q126 : (bt s i == 126) = false := beq_eq_false_iff_ne.2 h126
  have hone : one s i = if i + 2 ≤ s.size ∧ amg (s.extract i (i + 2)) signs = true then .ok (6, s.extract i (i + 2), 0, i + 2) else if i + 1 ≤ s.size ∧ amg (s.extract i (i + 1)) signs = true then .ok (6, s.extract i (i + 1), 0, i + 1) else .error 110 := by
    unfold one; rw [if_neg (by rw [hsm, hcp]; rintro (h | h) <;> cases h), if_neg h39, if_neg (by rw [hdg]; rintro (h | h); exact h126 h; cases h)]
  have HS := fun (u : World) => hideR (rSmall (bt s i) u)
  have HCp := fun (u : World) => hideR (rCapital (bt s i) u)
  have HDg := fun (u : World) => hideR (rDigit (bt s i) u)
  simp only [hsm] at HS
  simp only [hcp] at HCp
  simp only [hdg] at HDg
  obtain ⟨j, hj⟩ : ∃ j : Nat, j = i + 1 := ⟨_, rfl⟩
  obtain ⟨k, hk⟩ : ∃ k : Nat, k = i + 2 := ⟨_, rfl⟩
  rw [← hj, ← hk] at hone
  have hw1 : wrap64 ((i : Int) + 1) = (j : Int) := by unfold wrap64; omega
  have hw1b : (i : Int) + 1 = (j : Int) := by omega
  have hw2 : wrap64 ((i : Int) + 2) = (k : Int) := by unfold wrap64; omega
  have hw2b : (i : Int) + 2 = (k : Int) := by omega
  have hwsz := wA_size w
  have hij : i ≤ j := by omega
  have hik : i ≤ k := by omega
  have hjs : j ≤ s.size := by omega
  have qj : decide ((j : Int) ≤ (s.size : Int)) = true := decide_eq_true (by omega)
  have q10 : decide ((2 : Int) ≥ 1) = true := by decide
  obtain ⟨x1, hx1⟩ : ∃ x, x = s.extract i j := ⟨_, rfl⟩
  obtain ⟨x2, hx2⟩ : ∃ x, x = s.extract i k := ⟨_, rfl⟩
  have hs1 : s.extract i j = x1 := hx1.symm
  have hs2 : s.extract i k = x2 := hx2.symm
  rw [← hx1, ← hx2] at hone
  have HK1 := fun (u : World) => hideR (rSign x1 u)
  have HK2 := fun (u : World) => hideR (rSign x2 u)
  generalize amg x1 signs = b1 at *
  generalize amg x2 signs = b2 at *
  have hjs' : (j ≤ s.size) = True := eq_true hjs
  rw [hone]
  clear hone hx1 hx2 hj hk
  generalize bt s i = c at *
  by_cases hks : k ≤ s.size
  · have qk : decide ((k : Int) ≤ (s.size : Int)) = true := decide_eq_true (by omega)
    cases b2 with
    | true =>
      rw [if_pos ⟨hks, rfl⟩]
      have HO : Hid (oOut i (.ok (6, x2, 0, k)) = .tuple #[.agg #[.int .i64 6, .string x2, .int .i64 0, .int .i64 i], .int .i64 (k : Nat), .int .i64 0]) := hideR rfl
      generalize oOut i (.ok (6, x2, 0, k)) = OUT at HO ⊢
      go_enter Tryd.func13, Tryd.ntmps13
      go_wp2_with fail
      refine (HS _).out.mono ?_
      rintro e u ⟨rfl, rfl⟩
      go_wp2_with fail
      refine (HCp _).out.mono ?_
      rintro e u ⟨rfl, rfl⟩
      go_wp2_with fail
      refine (HDg _).out.mono ?_
      rintro e u ⟨rfl, rfl⟩
      go_wp2_with fail
      refine wp_loop_rounds 3 ?_
      rw [rounds_succ]
      go_wp2_with fail
      refine (HK2 _).out.mono ?_
      rintro e u2 ⟨rfl, hb2⟩
      have A1 := (An.start w).on hb2
      clear hb2
      obtain ⟨W2, hW2, hth, z5, z6, z7, z8, hbl⟩ := (A1).put (.int .i64 6) (.string x2) (.int .i64 0) (.int .i64 i)
      have HW2 := hideR hW2; have HTH := hideR hth; have HBL := hideR hbl; clear hW2 hth hbl
      clear A1
      go_wp2_with (refine wpList_store_mid rfl 32 (.tmp 4) (.tmp 135) rfl w.heap.size 0 #[.int .i64 6, .string x2, .int .i64 0, .int .i64 i] rfl rfl HTH.out sizeTk (by simp [Value.oneCell']) ?_; rw [HW2.out])
      refine bodyPost_ret (v := .tuple #[.agg #[.int .i64 6, .string x2, .int .i64 0, .int .i64 i], .int .i64 (k : Nat), .int .i64 0]) (by simp [results, Tryd.results13, go_sem, z5, z6, z7, z8]) rfl ⟨congrArg _ HO.out.symm, HBL.out⟩
    | false =>
      rw [if_neg (by rintro ⟨_, h⟩; cases h)]
      cases b1 with
      | true =>
        rw [if_pos ⟨hjs, rfl⟩]
        have HO : Hid (oOut i (.ok (6, x1, 0, j)) = .tuple #[.agg #[.int .i64 6, .string x1, .int .i64 0, .int .i64 i], .int .i64 (j : Nat), .int .i64 0]) := hideR rfl
        generalize oOut i (.ok (6, x1, 0, j)) = OUT at HO ⊢
        go_enter Tryd.func13, Tryd.ntmps13
        go_wp2_with fail
        refine (HS _).out.mono ?_
        rintro e u ⟨rfl, rfl⟩
        go_wp2_with fail
        refine (HCp _).out.mono ?_
        rintro e u ⟨rfl, rfl⟩
        go_wp2_with fail
        refine (HDg _).out.mono ?_
        rintro e u ⟨rfl, rfl⟩
        go_wp2_with fail
        refine wp_loop_rounds 3 ?_
        rw [rounds_succ]
        go_wp2_with fail
        refine (HK2 _).out.mono ?_
        rintro e u2 ⟨rfl, hb2⟩
        have A1 := (An.start w).on hb2
        clear hb2
        go_wp2_with fail
        rw [rounds_succ]
        go_wp2_with fail
        refine (HK1 _).out.mono ?_
        rintro e u1 ⟨rfl, hb1⟩
        have A2 := (A1).on hb1
        clear hb1
        obtain ⟨W2, hW2, hth, z5, z6, z7, z8, hbl⟩ := (A2).put (.int .i64 6) (.string x1) (.int .i64 0) (.int .i64 i)
        have HW2 := hideR hW2; have HTH := hideR hth; have HBL := hideR hbl; clear hW2 hth hbl
        clear A1 A2
        go_wp2_with (refine wpList_store_mid rfl 32 (.tmp 4) (.tmp 135) rfl w.heap.size 0 #[.int .i64 6, .string x1, .int .i64 0, .int .i64 i] rfl rfl HTH.out sizeTk (by simp [Value.oneCell']) ?_; rw [HW2.out])
        refine bodyPost_ret (v := .tuple #[.agg #[.int .i64 6, .string x1, .int .i64 0, .int .i64 i], .int .i64 (j : Nat), .int .i64 0]) (by simp [results, Tryd.results13, go_sem, z5, z6, z7, z8]) rfl ⟨congrArg _ HO.out.symm, HBL.out⟩
      | false =>
        rw [if_neg (by rintro ⟨_, h⟩; cases h)]
        have HO : Hid (oOut i (.error 110) = .tuple #[.agg #[.int .i64 0, .string ⟨#[]⟩, .int .i64 0, .int .i64 0], .int .i64 0, .int .i64 110]) := hideR rfl
        generalize oOut i (.error 110) = OUT at HO ⊢
        go_enter Tryd.func13, Tryd.ntmps13
        go_wp2_with fail
        refine (HS _).out.mono ?_
        rintro e u ⟨rfl, rfl⟩
        go_wp2_with fail
        refine (HCp _).out.mono ?_
        rintro e u ⟨rfl, rfl⟩
        go_wp2_with fail
        refine (HDg _).out.mono ?_
        rintro e u ⟨rfl, rfl⟩
        go_wp2_with fail
        refine wp_loop_rounds 3 ?_
        rw [rounds_succ]
        go_wp2_with fail
        refine (HK2 _).out.mono ?_
        rintro e u2 ⟨rfl, hb2⟩
        have A1 := (An.start w).on hb2
        clear hb2
        go_wp2_with fail
        rw [rounds_succ]
        go_wp2_with fail
        refine (HK1 _).out.mono ?_
        rintro e u1 ⟨rfl, hb1⟩
        have A2 := (A1).on hb1
        clear hb1
        obtain ⟨W2, hW2, hth, z5, z6, z7, z8, hbl⟩ := (A2).put (.int .i64 0) (.string ⟨#[]⟩) (.int .i64 0) (.int .i64 0)
        have HW2 := hideR hW2; have HTH := hideR hth; have HBL := hideR hbl; clear hW2 hth hbl
        clear A1 A2
        go_wp2_with fail
        rw [rounds_succ]
        go_wp2_with (refine wpList_store_mid rfl 32 (.tmp 4) (.tmp 139) rfl w.heap.size 0 #[.int .i64 0, .string ⟨#[]⟩, .int .i64 0, .int .i64 0] rfl rfl HTH.out sizeTk (by simp [Value.oneCell']) ?_; rw [HW2.out])
        refine bodyPost_ret (v := .tuple #[.agg #[.int .i64 0, .string ⟨#[]⟩, .int .i64 0, .int .i64 0], .int .i64 0, .int .i64 110]) (by simp [results, Tryd.results13, go_sem, z5, z6, z7, z8]) rfl ⟨congrArg _ HO.out.symm, HBL.out⟩
  · have qk : decide ((k : Int) ≤ (s.size : Int)) = false := decide_eq_false (by omega)
    rw [if_neg (by rintro ⟨h, _⟩; exact hks h)]
    cases b1 with
    | true =>
      rw [if_pos ⟨hjs, rfl⟩]
      have HO : Hid (oOut i (.ok (6, x1, 0, j)) = .tuple #[.agg #[.int .i64 6, .string x1, .int .i64 0, .int .i64 i], .int .i64 (j : Nat), .int .i64 0]) := hideR rfl
      generalize oOut i (.ok (6, x1, 0, j)) = OUT at HO ⊢
      go_enter Tryd.func13, Tryd.ntmps13
      go_wp2_with fail
      refine (HS _).out.mono ?_
      rintro e u ⟨rfl, rfl⟩
      go_wp2_with fail
      refine (HCp _).out.mono ?_
      rintro e u ⟨rfl, rfl⟩
      go_wp2_with fail
      refine (HDg _).out.mono ?_
      rintro e u ⟨rfl, rfl⟩
      go_wp2_with fail
      refine wp_loop_rounds 3 ?_
      rw [rounds_succ]
      go_wp2_with fail
      rw [rounds_succ]
      go_wp2_with fail
      refine (HK1 _).out.mono ?_
      rintro e u1 ⟨rfl, hb1⟩
      have A2 := (An.start w).on hb1
      clear hb1
      obtain ⟨W2, hW2, hth, z5, z6, z7, z8, hbl⟩ := (A2).put (.int .i64 6) (.string x1) (.int .i64 0) (.int .i64 i)
      have HW2 := hideR hW2; have HTH := hideR hth; have HBL := hideR hbl; clear hW2 hth hbl
      clear A2
      go_wp2_with (refine wpList_store_mid rfl 32 (.tmp 4) (.tmp 135) rfl w.heap.size 0 #[.int .i64 6, .string x1, .int .i64 0, .int .i64 i] rfl rfl HTH.out sizeTk (by simp [Value.oneCell']) ?_; rw [HW2.out])
      refine bodyPost_ret (v := .tuple #[.agg #[.int .i64 6, .string x1, .int .i64 0, .int .i64 i], .int .i64 (j : Nat), .int .i64 0]) (by simp [results, Tryd.results13, go_sem, z5, z6, z7, z8]) rfl ⟨congrArg _ HO.out.symm, HBL.out⟩
    | false =>
      rw [if_neg (by rintro ⟨_, h⟩; cases h)]
      have HO : Hid (oOut i (.error 110) = .tuple #[.agg #[.int .i64 0, .string ⟨#[]⟩, .int .i64 0, .int .i64 0], .int .i64 0, .int .i64 110]) := hideR rfl
      generalize oOut i (.error 110) = OUT at HO ⊢
      go_enter Tryd.func13, Tryd.ntmps13
      go_wp2_with fail
      refine (HS _).out.mono ?_
      rintro e u ⟨rfl, rfl⟩
      go_wp2_with fail
      refine (HCp _).out.mono ?_
      rintro e u ⟨rfl, rfl⟩
      go_wp2_with fail
      refine (HDg _).out.mono ?_
      rintro e u ⟨rfl, rfl⟩
      go_wp2_with fail
      refine wp_loop_rounds 3 ?_
      rw [rounds_succ]
      go_wp2_with fail
      rw [rounds_succ]
      go_wp2_with fail
      refine (HK1 _).out.mono ?_
      rintro e u1 ⟨rfl, hb1⟩
      have A2 := (An.start w).on hb1
      clear hb1
      obtain ⟨W2, hW2, hth, z5, z6, z7, z8, hbl⟩ := (A2).put (.int .i64 0) (.string ⟨#[]⟩) (.int .i64 0) (.int .i64 0)
      have HW2 := hideR hW2; have HTH := hideR hth; have HBL := hideR hbl; clear hW2 hth hbl
      clear A2
      go_wp2_with fail
      rw [rounds_succ]
      go_wp2_with (refine wpList_store_mid rfl 32 (.tmp 4) (.tmp 139) rfl w.heap.size 0 #[.int .i64 0, .string ⟨#[]⟩, .int .i64 0, .int .i64 0] rfl rfl HTH.out sizeTk (by simp [Value.oneCell']) ?_; rw [HW2.out])
      refine bodyPost_ret (v := .tuple #[.agg #[.int .i64 0, .string ⟨#[]⟩, .int .i64 0, .int .i64 0], .int .i64 0, .int .i64 110]) (by simp [results, Tryd.results13, go_sem, z5, z6, z7, z8]) rfl ⟨congrArg _ HO.out.symm, HBL.out⟩
theorem rOne (s : ByteArray) (i : Nat) (hi : i < s.size) (h63 : s.size < 4611686018427387904) (w : World) : Calls Tryd.prog 13 #[.string s, .int .i64 i] w fun e w' => e = .returned (oOut i (one s i)) ∧ Below w.heap.size w w' := by
  cases h1 : sm (bt s i) with
  | true => exact rOneLow s i hi h63 w h1
  | false =>
    cases h2 : cp (bt s i) with
    | true => exact rOneUp s i hi h63 w h2
    | false =>
      by_cases h3 : bt s i = 39
      · exact rOneVar s i hi h63 w h3
      · by_cases h4 : bt s i = 126
        · exact rOneNumT s i hi h63 w h4
        · cases h5 : dg (bt s i) with
          | true => exact rOneNumN s i hi h63 w h5
          | false => exact rOneSign s i hi h63 w h1 h2 h3 h4 h5
end Go.Proofs.YtppjjbpiefkjlaaDoor
