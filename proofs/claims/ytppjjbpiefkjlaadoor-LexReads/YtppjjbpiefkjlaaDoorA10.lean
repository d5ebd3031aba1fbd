/- Tokens: the program's first token. -/
import Derived.Test.YtppjjbpiefkjlaaDoorA7
import Derived.Test.YtppjjbpiefkjlaaDoorA9
import Derived.WalkMore
namespace Go.Proofs.YtppjjbpiefkjlaaDoor
open Go.RowKit Lx
set_option linter.unusedVariables false
namespace Lx
/-- the two tables, as they lie -/
structure WL (w : World) : Prop where
  keys : w.rangeAt 0 0 (keys.map Value.string)
  signs : w.rangeAt 1 0 (signs.map Value.string)
theorem range_on {w w' : World} {b : Nat} {v : Value} {l : List Value} (h : w.rangeAt b 0 (v :: l)) (hb : Below w.heap.size w w') : w'.rangeAt b 0 (v :: l) := fun j x hx => by
  have h0 := h 0 v rfl
  have hlt : b < w.heap.size := by
    unfold World.cell? at h0
    rcases Nat.lt_or_ge b w.heap.size with hl | hl
    · exact hl
    · rw [Array.getElem?_eq_none hl] at h0; cases h0
  have hj := h j x hx
  unfold World.cell? at hj ⊢
  rw [hb.block b hlt]
  exact hj
theorem WL.on {w w' : World} (h : WL w) (hb : Below w.heap.size w w') : WL w' := ⟨range_on h.keys hb, range_on h.signs hb⟩
theorem sizeKs : (Tryd.prog.info? 43).map (·.size) = some 12 := by kernel_rfl
theorem sizeSs : (Tryd.prog.info? 44).map (·.size) = some 14 := by kernel_rfl
theorem idx_keys (l : List Value) (k : Nat) (x : ByteArray) (h : l[k]? = some (.string x)) (hk : k < 12) (w : World) : (Instr.index 43 (.agg l.toArray) (.int .i64 k)).run Tryd.prog w = .ok (.string x) w := by
  obtain ⟨i, hi, hs⟩ : ∃ i, Tryd.prog.info? 9 = some i ∧ i.size = 1 := ⟨_, rfl, rfl⟩
  simp [Instr.index, run_underlying Tryd.underlying43, asIntOf, sizeOf, typeInfo, hi, hs, part, isAgg, run_underlying Tryd.underlying9, h, go_sem]
  omega
theorem idx_signs (l : List Value) (k : Nat) (x : ByteArray) (h : l[k]? = some (.string x)) (hk : k < 14) (w : World) : (Instr.index 44 (.agg l.toArray) (.int .i64 k)).run Tryd.prog w = .ok (.string x) w := by
  obtain ⟨i, hi, hs⟩ : ∃ i, Tryd.prog.info? 9 = some i ∧ i.size = 1 := ⟨_, rfl, rfl⟩
  simp [Instr.index, run_underlying Tryd.underlying44, asIntOf, sizeOf, typeInfo, hi, hs, part, isAgg, run_underlying Tryd.underlying9, h, go_sem]
  omega
theorem idx1 (s : ByteArray) (hi : 1 < s.size) (w : World) {P : Program} (t : TypeId) (h : P.underlying t = some .string) : (Instr.index t (.string s) (.int .i64 1)).run P w = .ok (.int .u8 (bt s 1)) w := by
  have e := idx_bt s 1 hi w t h
  simpa using e
theorem aF (E L n : Nat) (h : E = 1 + L) (hE : E ≤ n) (hn : n < 4611686018427387904) : wrap64 (1 + (L : Int)) = (E : Int) ∧ 1 + (L : Int) = (E : Int) ∧ L ≤ n ∧ E - 1 = L := by subst h; unfold wrap64; omega
theorem aH (R y n : Nat) (h : R = y) (h1 : 1 ≤ y ∧ y ≤ 2) (h2 : y ≤ n) : R ≠ 0 ∧ (y : Int) = (R : Int) ∧ decide ((R : Int) > 32) = false ∧ wrap64 (R : Int) = (R : Int) ∧ R ≤ n ∧ ¬ 32 < R := by
  subst h
  refine ⟨by omega, rfl, decide_eq_false (by omega), ?_, h2, by omega⟩
  unfold wrap64; omega
theorem aI (k : Nat) (h : k < 14) : decide ((k : Int) < 14) = true ∧ wrap64 ((k : Int) + 1) = ((k + 1 : Nat) : Int) := by
  refine ⟨decide_eq_true (by omega), ?_⟩
  unfold wrap64; omega
theorem ext_sz (s : ByteArray) (a b : Nat) : (s.extract a b).size ≤ s.size := by rw [ByteArray.size_extract]; omega
theorem lt32 {L : Nat} (h : 32 < L) : decide ((L : Int) > 32) = true := decide_eq_true (by omega)
theorem nlt32 {L : Nat} (h : ¬ 32 < L) : decide ((L : Int) > 32) = false := decide_eq_false (by omega)
theorem aG (E : Nat) (h : 1 ≤ E) : ∃ L, E = 1 + L := ⟨E - 1, by omega⟩
theorem signs_len : signs.length = 14 := by simp [signs, sgn2, sgn1]
theorem fst_at (t : ByteArray) (l : List ByteArray) (k : Nat) (x : ByteArray) (h : l[k]? = some x) : fst t (l.drop k) = if pfx t x = true then x.size else fst t (l.drop (k + 1)) := by
  obtain ⟨hk, hx⟩ := List.getElem?_eq_some_iff.1 h
  rw [List.drop_eq_getElem_cons hk, fst, hx]
theorem oneS (t : ByteArray) (h0 : 0 < t.size) (hsm : sm (bt t 0) = false) (hcp : cp (bt t 0) = false) (h39 : bt t 0 ≠ 39) (h126 : bt t 0 ≠ 126) (hdg : dg (bt t 0) = false) : one t 0 = if fst t signs = 0 then .error 110 else .ok (6, t.extract 0 (fst t signs), 0, fst t signs) := by
  unfold one
  rw [if_neg (by rw [hsm, hcp]; rintro (h | h) <;> cases h), if_neg h39, if_neg (by rw [hdg]; rintro (h | h); exact h126 h; cases h), fst_signs]
  simp only [Nat.zero_add]
  by_cases h2 : 2 ≤ t.size ∧ amg (t.extract 0 2) signs = true
  · rw [if_pos h2, if_pos h2]; rfl
  · rw [if_neg h2, if_neg h2]
    by_cases h1 : 1 ≤ t.size ∧ amg (t.extract 0 1) signs = true
    · rw [if_pos h1, if_pos h1]; rfl
    · rw [if_neg h1, if_neg h1]; rfl
theorem pfx_size {t x : ByteArray} (h : pfx t x = true) : x.size ≤ t.size := by unfold pfx at h; rw [Bool.and_eq_true, decide_eq_true_eq] at h; exact h.1
theorem signs_size : ∀ x ∈ signs, 1 ≤ x.size ∧ x.size ≤ 2 := fun x hx => by
  unfold signs at hx
  rcases List.mem_append.1 hx with h | h
  · have := sgn2_size x h; omega
  · have := sgn1_size x h; omega
end Lx
set_option maxRecDepth 100000 in
set_option maxHeartbeats 8000000 in
theorem pFirstNumT (s : ByteArray) (hi : 0 < s.size) (h63 : s.size < 4611686018427387904) (hz : s.size ≤ 281474976710656) (w : World) (hWL : WL w) (hc : bt s 0 = 126) : Calls Tryd.prog 11 #[.string s] w fun e w' => e = .returned (oOut 0 (one s 0)) ∧ Below w.heap.size w w' := by
  have hx := fun (w : World) => idx0 s hi w (P := Tryd.prog) 9 Tryd.underlying9
  have hc0 := bt_bd s 0
  have HDg := fun (u : World) => hideR (pDigit (bt s 0) u)
  have HSm := fun (u : World) => hideR (pSmall (bt s 0) u)
  have HCp := fun (u : World) => hideR (pCapital (bt s 0) u)
  have hcv : IntKind.i32.wrap (bt s 0) = bt s 0 := by rw [IntKind.wrap_i32]; omega
  have hcv2 : wrap32 (bt s 0) = bt s 0 := by unfold wrap32; omega
  have hwsz := wA_size w
  have hsm : sm (bt s 0) = false := by rw [hc]; rfl
  have hcp : cp (bt s 0) = false := by rw [hc]; rfl
  have hdg : dg (bt s 0) = false := by rw [hc]; rfl
  have h39 : bt s 0 ≠ 39 := by rw [hc]; decide
  have h126 : (bt s 0 == 126) = true := beq_iff_eq.2 hc
  have hor : bt s 0 = 126 ∨ dg (bt s 0) = true := .inl hc
  simp only [hdg] at HDg
  have HN := hideR (pNum s hi (by omega) (wA w))
  have hone : oOut 0 (one s 0) = nOut (num s 0 (if bt s 0 = 126 then 1 else 0)) := by
    unfold one; rw [if_neg (by rw [hsm, hcp]; rintro (h | h) <;> cases h), if_neg h39, if_pos hor, show (if bt s 0 = 126 then 0 + 1 else 0) = (if bt s 0 = 126 then 1 else 0) from rfl]
    cases num s 0 (if bt s 0 = 126 then 1 else 0) <;> rfl
  rw [hone]
  have hshape : ∃ K T N A E z, nOut (num s 0 (if bt s 0 = 126 then 1 else 0)) = .tuple #[.agg #[.int .i64 K, .string T, .int .i64 N, .int .i64 A], .int .i64 E, .int .i64 z] := by
    cases num s 0 (if bt s 0 = 126 then 1 else 0) with
    | none => exact ⟨_, _, _, _, _, _, rfl⟩
    | some p => exact ⟨_, _, _, _, _, _, rfl⟩
  obtain ⟨K, T, N, A, E, z, hO⟩ := hshape
  rw [hO] at HN ⊢
  have HO : Hid (Value.tuple #[.agg #[.int .i64 K, .string T, .int .i64 N, .int .i64 A], .int .i64 E, .int .i64 z] = .tuple #[.agg #[.int .i64 K, .string T, .int .i64 N, .int .i64 A], .int .i64 E, .int .i64 z]) := hideR rfl
  clear hO hone hor h39 hc hc0
  generalize bt s 0 = c at *
  go_enter Tryd.func11, Tryd.ntmps11
  go_wp2_with fail
  go_step3
  go_wp2_with fail
  go_step3
  go_wp2_with fail
  refine Calls.mono (show Calls _ _ _ _ _ from (HDg _).out) ?_
  rintro e u ⟨rfl, rfl⟩
  go_wp2_with fail
  refine Calls.mono (show Calls _ _ _ _ _ from HN.out) ?_
  rintro e u ⟨rfl, hb⟩
  have A9 := (An.start w).on hb
  clear hb
  obtain ⟨W2, hW2, hth, z5, z6, z7, z8, hbl⟩ := (A9).put (.int .i64 K) (.string T) (.int .i64 N) (.int .i64 A)
  have HW2 := hideR hW2; have HTH := hideR hth; have HBL := hideR hbl; clear hW2 hth hbl
  clear A9
  go_wp2_with (refine wpList_store_mid rfl 32 (.tmp 2) (.tmp 33) rfl w.heap.size 0 #[.int .i64 K, .string T, .int .i64 N, .int .i64 A] rfl rfl HTH.out sizeTk (by simp [Value.oneCell']) ?_; rw [HW2.out])
  first | (show Exit.noGoto (bodyPost _ _ _) _ _ _; rw [Exit.noGoto_ret]) | skip
  refine bodyPost_ret (v := .tuple #[.agg #[.int .i64 K, .string T, .int .i64 N, .int .i64 A], .int .i64 E, .int .i64 z]) (by simp [results, Tryd.results11, go_sem, z5, z6, z7, z8]) rfl ⟨rfl, HBL.out⟩
set_option maxRecDepth 100000 in
set_option maxHeartbeats 8000000 in
theorem pFirstNumN (s : ByteArray) (hi : 0 < s.size) (h63 : s.size < 4611686018427387904) (hz : s.size ≤ 281474976710656) (w : World) (hWL : WL w) (hc : dg (bt s 0) = true) : Calls Tryd.prog 11 #[.string s] w fun e w' => e = .returned (oOut 0 (one s 0)) ∧ Below w.heap.size w w' := by
  have hx := fun (w : World) => idx0 s hi w (P := Tryd.prog) 9 Tryd.underlying9
  have hc0 := bt_bd s 0
  have HDg := fun (u : World) => hideR (pDigit (bt s 0) u)
  have HSm := fun (u : World) => hideR (pSmall (bt s 0) u)
  have HCp := fun (u : World) => hideR (pCapital (bt s 0) u)
  have hcv : IntKind.i32.wrap (bt s 0) = bt s 0 := by rw [IntKind.wrap_i32]; omega
  have hcv2 : wrap32 (bt s 0) = bt s 0 := by unfold wrap32; omega
  have hwsz := wA_size w
  have hd := dg_bd hc
  have hsm : sm (bt s 0) = false := by unfold sm; rw [decide_eq_false (by omega)]; rfl
  have hcp : cp (bt s 0) = false := by unfold cp; rw [decide_eq_false (by omega)]; rfl
  have h39 : bt s 0 ≠ 39 := by omega
  have hor : bt s 0 = 126 ∨ dg (bt s 0) = true := .inr hc
  simp only [hc] at HDg
  have HN := hideR (pNum s hi (by omega) (wA w))
  have hone : oOut 0 (one s 0) = nOut (num s 0 (if bt s 0 = 126 then 1 else 0)) := by
    unfold one; rw [if_neg (by rw [hsm, hcp]; rintro (h | h) <;> cases h), if_neg h39, if_pos hor, show (if bt s 0 = 126 then 0 + 1 else 0) = (if bt s 0 = 126 then 1 else 0) from rfl]
    cases num s 0 (if bt s 0 = 126 then 1 else 0) <;> rfl
  rw [hone]
  have hshape : ∃ K T N A E z, nOut (num s 0 (if bt s 0 = 126 then 1 else 0)) = .tuple #[.agg #[.int .i64 K, .string T, .int .i64 N, .int .i64 A], .int .i64 E, .int .i64 z] := by
    cases num s 0 (if bt s 0 = 126 then 1 else 0) with
    | none => exact ⟨_, _, _, _, _, _, rfl⟩
    | some p => exact ⟨_, _, _, _, _, _, rfl⟩
  obtain ⟨K, T, N, A, E, z, hO⟩ := hshape
  rw [hO] at HN ⊢
  have HO : Hid (Value.tuple #[.agg #[.int .i64 K, .string T, .int .i64 N, .int .i64 A], .int .i64 E, .int .i64 z] = .tuple #[.agg #[.int .i64 K, .string T, .int .i64 N, .int .i64 A], .int .i64 E, .int .i64 z]) := hideR rfl
  clear hO hone hor h39 hc hc0 hd
  generalize bt s 0 = c at *
  go_enter Tryd.func11, Tryd.ntmps11
  go_wp2_with fail
  go_step3
  go_wp2_with fail
  go_step3
  go_wp2_with fail
  refine Calls.mono (show Calls _ _ _ _ _ from (HDg _).out) ?_
  rintro e u ⟨rfl, rfl⟩
  go_wp2_with fail
  refine Calls.mono (show Calls _ _ _ _ _ from HN.out) ?_
  rintro e u ⟨rfl, hb⟩
  have A9 := (An.start w).on hb
  clear hb
  obtain ⟨W2, hW2, hth, z5, z6, z7, z8, hbl⟩ := (A9).put (.int .i64 K) (.string T) (.int .i64 N) (.int .i64 A)
  have HW2 := hideR hW2; have HTH := hideR hth; have HBL := hideR hbl; clear hW2 hth hbl
  clear A9
  go_wp2_with (refine wpList_store_mid rfl 32 (.tmp 2) (.tmp 33) rfl w.heap.size 0 #[.int .i64 K, .string T, .int .i64 N, .int .i64 A] rfl rfl HTH.out sizeTk (by simp [Value.oneCell']) ?_; rw [HW2.out])
  first | (show Exit.noGoto (bodyPost _ _ _) _ _ _; rw [Exit.noGoto_ret]) | skip
  refine bodyPost_ret (v := .tuple #[.agg #[.int .i64 K, .string T, .int .i64 N, .int .i64 A], .int .i64 E, .int .i64 z]) (by simp [results, Tryd.results11, go_sem, z5, z6, z7, z8]) rfl ⟨rfl, HBL.out⟩
set_option maxRecDepth 100000 in
set_option maxHeartbeats 8000000 in
theorem pFirstUp (s : ByteArray) (hi : 0 < s.size) (h63 : s.size < 4611686018427387904) (hz : s.size ≤ 281474976710656) (w : World) (hWL : WL w) (hc : cp (bt s 0) = true) : Calls Tryd.prog 11 #[.string s] w fun e w' => e = .returned (oOut 0 (one s 0)) ∧ Below w.heap.size w w' := by
  have hx := fun (w : World) => idx0 s hi w (P := Tryd.prog) 9 Tryd.underlying9
  have hc0 := bt_bd s 0
  have HDg := fun (u : World) => hideR (pDigit (bt s 0) u)
  have HSm := fun (u : World) => hideR (pSmall (bt s 0) u)
  have HCp := fun (u : World) => hideR (pCapital (bt s 0) u)
  have hcv : IntKind.i32.wrap (bt s 0) = bt s 0 := by rw [IntKind.wrap_i32]; omega
  have hcv2 : wrap32 (bt s 0) = bt s 0 := by unfold wrap32; omega
  have hwsz := wA_size w
  have hdg : dg (bt s 0) = false := by cases h : dg (bt s 0); rfl; have h1 := dg_bd h; unfold cp at hc; rw [Bool.and_eq_true, decide_eq_true_eq, decide_eq_true_eq] at hc; omega
  have h126 : (bt s 0 == 126) = false := beq_eq_false_iff_ne.2 (fun h => by rw [h] at hc; cases hc)
  simp only [hdg] at HDg
  have hsm : sm (bt s 0) = false := by cases h : sm (bt s 0); rfl; rw [smcp h] at hc; cases hc
  have hone : one s 0 = if 32 < en s pt 0 - 0 then .error 2 else .ok (2, s.extract 0 (en s pt 0), 0, en s pt 0) := by unfold one; rw [if_pos (.inr hc), hc]; rfl
  rw [Nat.sub_zero] at hone
  simp only [hsm] at HSm
  simp only [hc] at HCp
  have HWd := fun (u : World) => hideR (pWord s u)
  have he1 := en_le s pt (Nat.zero_le s.size)
  generalize en s pt 0 = E at *
  by_cases h32 : 32 < E
  · have q1 : decide ((E : Int) > 32) = true := lt32 h32
    rw [if_pos h32] at hone
    rw [hone]
    have HO : Hid (oOut 0 (.error 2) = .tuple #[.agg #[.int .i64 0, .string ⟨#[]⟩, .int .i64 0, .int .i64 0], .int .i64 0, .int .i64 2]) := hideR rfl
    generalize oOut 0 (.error 2) = OUT at HO ⊢
    clear hone hc hc0
    generalize bt s 0 = c at *
    go_enter Tryd.func11, Tryd.ntmps11
    go_wp2_with fail
    go_step3
    go_wp2_with fail
    go_step3
    go_wp2_with fail
    refine Calls.mono (show Calls _ _ _ _ _ from (HDg _).out) ?_
    rintro e u ⟨rfl, rfl⟩
    go_wp2_with fail
    refine Calls.mono (show Calls _ _ _ _ _ from (HSm _).out) ?_
    rintro e u ⟨rfl, rfl⟩
    go_wp2_with fail
    refine Calls.mono (show Calls _ _ _ _ _ from (HCp _).out) ?_
    rintro e u ⟨rfl, rfl⟩
    go_wp2_with fail
    refine Calls.mono (show Calls _ _ _ _ _ from (HWd _).out) ?_
    rintro e u ⟨rfl, hb⟩
    have A8 := (An.start w).on hb
    clear hb
    obtain ⟨W2, hW2, hth, z5, z6, z7, z8, hbl⟩ := (A8).put (.int .i64 0) (.string ⟨#[]⟩) (.int .i64 0) (.int .i64 0)
    have HW2 := hideR hW2; have HTH := hideR hth; have HBL := hideR hbl; clear hW2 hth hbl
    clear A8
    go_wp2_with (refine wpList_store_mid rfl 32 (.tmp 2) (.tmp 79) rfl w.heap.size 0 #[.int .i64 0, .string ⟨#[]⟩, .int .i64 0, .int .i64 0] rfl rfl HTH.out sizeTk (by simp [Value.oneCell']) ?_; rw [HW2.out])
    first | (show Exit.noGoto (bodyPost _ _ _) _ _ _; rw [Exit.noGoto_ret]) | skip
    refine bodyPost_ret (v := .tuple #[.agg #[.int .i64 0, .string ⟨#[]⟩, .int .i64 0, .int .i64 0], .int .i64 0, .int .i64 2]) (by simp [results, Tryd.results11, go_sem, z5, z6, z7, z8]) rfl ⟨congrArg _ HO.out.symm, HBL.out⟩
  · have q1 : decide ((E : Int) > 32) = false := nlt32 h32
    rw [if_neg h32] at hone
    rw [hone]
    have HCl := fun (u : World) => hideR (pClone (s.extract 0 E) u (Nat.le_trans (ext_sz s 0 E) hz))
    have hwE : wrap64 (E : Int) = (E : Int) := by unfold wrap64; omega
    obtain ⟨x, hx1⟩ : ∃ x, x = s.extract 0 E := ⟨_, rfl⟩
    have hsl : s.extract 0 E = x := hx1.symm
    rw [← hx1]
    simp only [← hx1] at HCl
    have HO : Hid (oOut 0 (.ok (2, x, 0, E)) = .tuple #[.agg #[.int .i64 2, .string x, .int .i64 0, .int .i64 0], .int .i64 (E : Nat), .int .i64 0]) := hideR rfl
    generalize oOut 0 (.ok (2, x, 0, E)) = OUT at HO ⊢
    clear hone hc hc0 hx1
    generalize bt s 0 = c at *
    go_enter Tryd.func11, Tryd.ntmps11
    go_wp2_with fail
    go_step3
    go_wp2_with fail
    go_step3
    go_wp2_with fail
    refine Calls.mono (show Calls _ _ _ _ _ from (HDg _).out) ?_
    rintro e u ⟨rfl, rfl⟩
    go_wp2_with fail
    refine Calls.mono (show Calls _ _ _ _ _ from (HSm _).out) ?_
    rintro e u ⟨rfl, rfl⟩
    go_wp2_with fail
    refine Calls.mono (show Calls _ _ _ _ _ from (HCp _).out) ?_
    rintro e u ⟨rfl, rfl⟩
    go_wp2_with fail
    refine Calls.mono (show Calls _ _ _ _ _ from (HWd _).out) ?_
    rintro e u ⟨rfl, hb⟩
    have A8 := (An.start w).on hb
    clear hb
    go_wp2_with fail
    refine (HCl _).out.mono ?_
    rintro e uc ⟨rfl, hbc⟩
    have A9 := (A8).on hbc
    clear hbc
    obtain ⟨W2, hW2, hth, z5, z6, z7, z8, hbl⟩ := (A9).put (.int .i64 2) (.string x) (.int .i64 0) (.int .i64 0)
    have HW2 := hideR hW2; have HTH := hideR hth; have HBL := hideR hbl; clear hW2 hth hbl
    clear A9
    go_wp2_with (refine wpList_store_mid rfl 32 (.tmp 2) (.tmp 88) rfl w.heap.size 0 #[.int .i64 2, .string x, .int .i64 0, .int .i64 0] rfl rfl HTH.out sizeTk (by simp [Value.oneCell']) ?_; rw [HW2.out])
    first | (show Exit.noGoto (bodyPost _ _ _) _ _ _; rw [Exit.noGoto_ret]) | skip
    refine bodyPost_ret (v := .tuple #[.agg #[.int .i64 2, .string x, .int .i64 0, .int .i64 0], .int .i64 (E : Nat), .int .i64 0]) (by simp [results, Tryd.results11, go_sem, z5, z6, z7, z8]) rfl ⟨congrArg _ HO.out.symm, HBL.out⟩
set_option maxRecDepth 100000 in
set_option maxHeartbeats 8000000 in
theorem pFirstLow (s : ByteArray) (hi : 0 < s.size) (h63 : s.size < 4611686018427387904) (hz : s.size ≤ 281474976710656) (w : World) (hWL : WL w) (hc : sm (bt s 0) = true) : Calls Tryd.prog 11 #[.string s] w fun e w' => e = .returned (oOut 0 (one s 0)) ∧ Below w.heap.size w w' := by
  have hx := fun (w : World) => idx0 s hi w (P := Tryd.prog) 9 Tryd.underlying9
  have hc0 := bt_bd s 0
  have HDg := fun (u : World) => hideR (pDigit (bt s 0) u)
  have HSm := fun (u : World) => hideR (pSmall (bt s 0) u)
  have HCp := fun (u : World) => hideR (pCapital (bt s 0) u)
  have hcv : IntKind.i32.wrap (bt s 0) = bt s 0 := by rw [IntKind.wrap_i32]; omega
  have hcv2 : wrap32 (bt s 0) = bt s 0 := by unfold wrap32; omega
  have hwsz := wA_size w
  have hdg : dg (bt s 0) = false := by cases h : dg (bt s 0); rfl; have h1 := dg_bd h; unfold sm at hc; rw [Bool.and_eq_true, decide_eq_true_eq, decide_eq_true_eq] at hc; omega
  have h126 : (bt s 0 == 126) = false := beq_eq_false_iff_ne.2 (fun h => by rw [h] at hc; cases hc)
  simp only [hdg] at HDg
  have hcp := smcp hc
  have hone : one s 0 = if 32 < en s pt 0 - 0 then .error 2 else .ok (if amg (s.extract 0 (en s pt 0)) keys = true then 5 else 1, s.extract 0 (en s pt 0), 0, en s pt 0) := by unfold one; rw [if_pos (.inl hc), hcp]; rfl
  rw [Nat.sub_zero] at hone
  simp only [hc] at HSm
  have HWd := fun (u : World) => hideR (pWord s u)
  have he1 := en_le s pt (Nat.zero_le s.size)
  generalize en s pt 0 = E at *
  have HCl := fun (u : World) => hideR (pClone (s.extract 0 E) u (Nat.le_trans (ext_sz s 0 E) hz))
  have hwE : wrap64 (E : Int) = (E : Int) := by unfold wrap64; omega
  obtain ⟨x, hx1⟩ : ∃ x, x = s.extract 0 E := ⟨_, rfl⟩
  have hsl : s.extract 0 E = x := hx1.symm
  rw [← hx1] at hone
  simp only [← hx1] at HCl
  obtain ⟨R, hR⟩ : ∃ R, R = amg x keys := ⟨_, rfl⟩
  rw [← hR] at hone
  have st0 : Hid (amg x (keys.drop 0) = R) := hideR hR.symm
  obtain ⟨KS, hKS⟩ : ∃ KS : List Value, KS = keys.map Value.string := ⟨_, rfl⟩
  have HKS : Hid (∀ k y, keys[k]? = some y → KS[k]? = some (Value.string y)) := hideR (fun k y h => by rw [hKS, List.getElem?_map, h]; rfl)
  have hKl : KS.length = 12 := by rw [hKS]; rfl
  have HSZ : Hid ((Tryd.prog.info? 43).map (·.size) = some KS.length) := hideR (by rw [hKl]; exact sizeKs)
  have HWK := hideR hWL.keys
  rw [← hKS] at HWK
  have HRO : Hid (∀ u, Below w.heap.size w u → u.rangeAt 0 0 KS) := hideR fun u hb => by rw [hKS]; exact (hWL.on hb).keys
  clear hKS hKl hWL hR hx1
  by_cases h32 : 32 < E
  · have q1 : decide ((E : Int) > 32) = true := lt32 h32
    rw [if_pos h32] at hone
    rw [hone]
    have HO : Hid (oOut 0 (.error 2) = .tuple #[.agg #[.int .i64 0, .string ⟨#[]⟩, .int .i64 0, .int .i64 0], .int .i64 0, .int .i64 2]) := hideR rfl
    generalize oOut 0 (.error 2) = OUT at HO ⊢
    clear hone hc hc0
    generalize bt s 0 = c at *
    go_enter Tryd.func11, Tryd.ntmps11
    go_wp2_with fail
    go_step3
    go_wp2_with fail
    go_step3
    go_wp2_with fail
    refine Calls.mono (show Calls _ _ _ _ _ from (HDg _).out) ?_
    rintro e u ⟨rfl, rfl⟩
    go_wp2_with fail
    refine Calls.mono (show Calls _ _ _ _ _ from (HSm _).out) ?_
    rintro e u ⟨rfl, rfl⟩
    go_wp2_with fail
    refine Calls.mono (show Calls _ _ _ _ _ from (HWd _).out) ?_
    rintro e u ⟨rfl, hb⟩
    have A8 := hideR ((An.start w).on hb)
    have HRA := hideR (HRO.out u A8.out.bel)
    clear hb HRO
    go_wp2_with (refine wpList_load_mid rfl 43 (.global 0) rfl 0 0 rfl KS _ HRA.out Tryd.underlying43 rfl HSZ.out ?_)
    go_loop [42] (fun a => ∃ k : Nat, a = .int .i64 k ∧ k ≤ 12 ∧ Hid (amg x (keys.drop k) = R)) (fun a => match a with | .int _ k => 12 - k.toNat | _ => 0)
    case atStart => exact ⟨0, rfl, by omega, st0⟩
    case round =>
      obtain ⟨k, rfl, hk, hRk⟩ := hrel
      clear st0
      by_cases hp : k < 12
      · have q3 : decide ((k : Int) < 12) = true := decide_eq_true (by omega)
        obtain ⟨y, hy⟩ : ∃ y, keys[k]? = some y := ⟨_, List.getElem?_eq_getElem hp⟩
        have hidx := fun (u : World) => idx_keys KS k y (HKS.out k y hy) hp u
        have hs := amg_at x keys k y hy
        rw [hRk.out] at hs
        have hw1 : wrap64 ((k : Int) + 1) = ((k + 1 : Nat) : Int) := by unfold wrap64; omega
        by_cases h : y = x
        · rw [if_pos h] at hs
          have q2 : (x.toList == y.toList) = true := bytes_eq h.symm
          have HS := hideR hs
          clear hs hy h hRk
          obtain ⟨W2, hW2, hth, z5, z6, z7, z8, hbl⟩ := (A8.out).put (.int .i64 0) (.string ⟨#[]⟩) (.int .i64 0) (.int .i64 0)
          have HW2 := hideR hW2; have HTH := hideR hth; have HBL := hideR hbl; clear hW2 hth hbl
          go_wp2_with (refine wpList_store_mid rfl 32 (.tmp 2) (.tmp 79) rfl w.heap.size 0 #[.int .i64 0, .string ⟨#[]⟩, .int .i64 0, .int .i64 0] rfl rfl HTH.out sizeTk (by simp [Value.oneCell']) ?_; rw [HW2.out])
          first | (show Exit.noGoto (bodyPost _ _ _) _ _ _; rw [Exit.noGoto_ret]) | skip
          refine bodyPost_ret (v := .tuple #[.agg #[.int .i64 0, .string ⟨#[]⟩, .int .i64 0, .int .i64 0], .int .i64 0, .int .i64 2]) (by simp [results, Tryd.results11, go_sem, z5, z6, z7, z8]) rfl ⟨congrArg _ HO.out.symm, HBL.out⟩
        · rw [if_neg h] at hs
          have q2 : (x.toList == y.toList) = false := bytes_ne fun e => h e.symm
          have HS := hideR hs
          clear hs hy h hRk
          go_wp2
          go_round
          case rel => exact ⟨k + 1, by first | rfl | (congr 1), by omega, hideR HS.out.symm⟩
          case measure => simp; omega
      · have q3 : decide ((k : Int) < 12) = false := decide_eq_false (by omega)
        clear hRk
        obtain ⟨W2, hW2, hth, z5, z6, z7, z8, hbl⟩ := (A8.out).put (.int .i64 0) (.string ⟨#[]⟩) (.int .i64 0) (.int .i64 0)
        have HW2 := hideR hW2; have HTH := hideR hth; have HBL := hideR hbl; clear hW2 hth hbl
        go_wp2_with (refine wpList_store_mid rfl 32 (.tmp 2) (.tmp 79) rfl w.heap.size 0 #[.int .i64 0, .string ⟨#[]⟩, .int .i64 0, .int .i64 0] rfl rfl HTH.out sizeTk (by simp [Value.oneCell']) ?_; rw [HW2.out])
        first | (show Exit.noGoto (bodyPost _ _ _) _ _ _; rw [Exit.noGoto_ret]) | skip
        refine bodyPost_ret (v := .tuple #[.agg #[.int .i64 0, .string ⟨#[]⟩, .int .i64 0, .int .i64 0], .int .i64 0, .int .i64 2]) (by simp [results, Tryd.results11, go_sem, z5, z6, z7, z8]) rfl ⟨congrArg _ HO.out.symm, HBL.out⟩
  · have q1 : decide ((E : Int) > 32) = false := nlt32 h32
    rw [if_neg h32] at hone
    rw [hone]
    have HO5 : Hid (R = true → oOut 0 (.ok (if R = true then 5 else 1, x, 0, E)) = .tuple #[.agg #[.int .i64 5, .string x, .int .i64 0, .int .i64 0], .int .i64 (E : Nat), .int .i64 0]) := hideR fun h => by rw [h]; rfl
    have HO1 : Hid (R = false → oOut 0 (.ok (if R = true then 5 else 1, x, 0, E)) = .tuple #[.agg #[.int .i64 1, .string x, .int .i64 0, .int .i64 0], .int .i64 (E : Nat), .int .i64 0]) := hideR fun h => by rw [h]; rfl
    generalize oOut 0 (.ok (if R = true then 5 else 1, x, 0, E)) = OUT at HO5 HO1 ⊢
    clear hone hc hc0
    generalize bt s 0 = c at *
    go_enter Tryd.func11, Tryd.ntmps11
    go_wp2_with fail
    go_step3
    go_wp2_with fail
    go_step3
    go_wp2_with fail
    refine Calls.mono (show Calls _ _ _ _ _ from (HDg _).out) ?_
    rintro e u ⟨rfl, rfl⟩
    go_wp2_with fail
    refine Calls.mono (show Calls _ _ _ _ _ from (HSm _).out) ?_
    rintro e u ⟨rfl, rfl⟩
    go_wp2_with fail
    refine Calls.mono (show Calls _ _ _ _ _ from (HWd _).out) ?_
    rintro e u ⟨rfl, hb⟩
    have A8 := hideR ((An.start w).on hb)
    have HRA := hideR (HRO.out u A8.out.bel)
    clear hb HRO
    go_wp2_with (refine wpList_load_mid rfl 43 (.global 0) rfl 0 0 rfl KS _ HRA.out Tryd.underlying43 rfl HSZ.out ?_)
    go_loop [42] (fun a => ∃ k : Nat, a = .int .i64 k ∧ k ≤ 12 ∧ Hid (amg x (keys.drop k) = R)) (fun a => match a with | .int _ k => 12 - k.toNat | _ => 0)
    case atStart => exact ⟨0, rfl, by omega, st0⟩
    case round =>
      obtain ⟨k, rfl, hk, hRk⟩ := hrel
      clear st0
      by_cases hp : k < 12
      · have q3 : decide ((k : Int) < 12) = true := decide_eq_true (by omega)
        obtain ⟨y, hy⟩ : ∃ y, keys[k]? = some y := ⟨_, List.getElem?_eq_getElem hp⟩
        have hidx := fun (u : World) => idx_keys KS k y (HKS.out k y hy) hp u
        have hs := amg_at x keys k y hy
        rw [hRk.out] at hs
        have hw1 : wrap64 ((k : Int) + 1) = ((k + 1 : Nat) : Int) := by unfold wrap64; omega
        by_cases h : y = x
        · rw [if_pos h] at hs
          have q2 : (x.toList == y.toList) = true := bytes_eq h.symm
          have HS := hideR hs
          clear hs hy h hRk
          have HO := hideR (HO5.out HS.out)
          clear HO5 HO1 HS
          go_wp2_with fail
          refine (HCl _).out.mono ?_
          rintro e uc ⟨rfl, hbc⟩
          have A9 := (A8.out).on hbc
          clear hbc
          obtain ⟨W2, hW2, hth, z5, z6, z7, z8, hbl⟩ := (A9).put (.int .i64 5) (.string x) (.int .i64 0) (.int .i64 0)
          have HW2 := hideR hW2; have HTH := hideR hth; have HBL := hideR hbl; clear hW2 hth hbl
          clear A9
          go_wp2_with (refine wpList_store_mid rfl 32 (.tmp 2) (.tmp 88) rfl w.heap.size 0 #[.int .i64 5, .string x, .int .i64 0, .int .i64 0] rfl rfl HTH.out sizeTk (by simp [Value.oneCell']) ?_; rw [HW2.out])
          first | (show Exit.noGoto (bodyPost _ _ _) _ _ _; rw [Exit.noGoto_ret]) | skip
          refine bodyPost_ret (v := .tuple #[.agg #[.int .i64 5, .string x, .int .i64 0, .int .i64 0], .int .i64 (E : Nat), .int .i64 0]) (by simp [results, Tryd.results11, go_sem, z5, z6, z7, z8]) rfl ⟨congrArg _ HO.out.symm, HBL.out⟩
        · rw [if_neg h] at hs
          have q2 : (x.toList == y.toList) = false := bytes_ne fun e => h e.symm
          have HS := hideR hs
          clear hs hy h hRk HO5 HO1
          go_wp2
          go_round
          case rel => exact ⟨k + 1, by first | rfl | (congr 1), by omega, hideR HS.out.symm⟩
          case measure => simp; omega
      · have q3 : decide ((k : Int) < 12) = false := decide_eq_false (by omega)
        have hs : R = false := by rw [← hRk.out, List.drop_eq_nil_of_le (show keys.length ≤ k from (by show 12 ≤ k; omega))]; rfl
        have HO := hideR (HO1.out hs)
        clear hRk hs HO5 HO1
        go_wp2_with fail
        refine (HCl _).out.mono ?_
        rintro e uc ⟨rfl, hbc⟩
        have A9 := (A8.out).on hbc
        clear hbc
        obtain ⟨W2, hW2, hth, z5, z6, z7, z8, hbl⟩ := (A9).put (.int .i64 1) (.string x) (.int .i64 0) (.int .i64 0)
        have HW2 := hideR hW2; have HTH := hideR hth; have HBL := hideR hbl; clear hW2 hth hbl
        clear A9
        go_wp2_with (refine wpList_store_mid rfl 32 (.tmp 2) (.tmp 88) rfl w.heap.size 0 #[.int .i64 1, .string x, .int .i64 0, .int .i64 0] rfl rfl HTH.out sizeTk (by simp [Value.oneCell']) ?_; rw [HW2.out])
        first | (show Exit.noGoto (bodyPost _ _ _) _ _ _; rw [Exit.noGoto_ret]) | skip
        refine bodyPost_ret (v := .tuple #[.agg #[.int .i64 1, .string x, .int .i64 0, .int .i64 0], .int .i64 (E : Nat), .int .i64 0]) (by simp [results, Tryd.results11, go_sem, z5, z6, z7, z8]) rfl ⟨congrArg _ HO.out.symm, HBL.out⟩
set_option maxRecDepth 100000 in
set_option maxHeartbeats 8000000 in
theorem pFirstVar (s : ByteArray) (hi : 0 < s.size) (h63 : s.size < 4611686018427387904) (hz : s.size ≤ 281474976710656) (w : World) (hWL : WL w) (hc : bt s 0 = 39) : Calls Tryd.prog 11 #[.string s] w fun e w' => e = .returned (oOut 0 (one s 0)) ∧ Below w.heap.size w w' := by
  have hx := fun (w : World) => idx0 s hi w (P := Tryd.prog) 9 Tryd.underlying9
  have hc0 := bt_bd s 0
  have HDg := fun (u : World) => hideR (pDigit (bt s 0) u)
  have HSm := fun (u : World) => hideR (pSmall (bt s 0) u)
  have HCp := fun (u : World) => hideR (pCapital (bt s 0) u)
  have hcv : IntKind.i32.wrap (bt s 0) = bt s 0 := by rw [IntKind.wrap_i32]; omega
  have hcv2 : wrap32 (bt s 0) = bt s 0 := by unfold wrap32; omega
  have hwsz := wA_size w
  have hsm : sm (bt s 0) = false := by rw [hc]; rfl
  have hcp : cp (bt s 0) = false := by rw [hc]; rfl
  have hdg : dg (bt s 0) = false := by rw [hc]; rfl
  have h126 : (bt s 0 == 126) = false := by rw [hc]; rfl
  have h39 : (bt s 0 == 39) = true := by rw [hc]; rfl
  simp only [hdg] at HDg
  simp only [hsm] at HSm
  simp only [hcp] at HCp
  have hone : one s 0 = if 0 + 1 = s.size ∨ sm (bt s (0 + 1)) = false then .error 110 else if 32 < en s pt (0 + 1) - (0 + 1) then .error 2 else .ok (3, s.extract (0 + 1) (en s pt (0 + 1)), 0, en s pt (0 + 1)) := by
    unfold one; rw [if_neg (by rw [hsm, hcp]; rintro (h | h) <;> cases h), if_pos hc]
  rw [Nat.zero_add] at hone
  clear hc
  by_cases hend : 1 = s.size
  · have qe : ((s.size : Int) == 1) = true := beq_iff_eq.2 (by omega)
    rw [if_pos (.inl hend)] at hone
    rw [hone]
    have HO : Hid (oOut 0 (.error 110) = .tuple #[.agg #[.int .i64 0, .string ⟨#[]⟩, .int .i64 0, .int .i64 0], .int .i64 0, .int .i64 110]) := hideR rfl
    generalize oOut 0 (.error 110) = OUT at HO ⊢
    clear hone hend hc0
    obtain ⟨c, hcc⟩ : ∃ c, bt s 0 = c := ⟨_, rfl⟩
    rw [hcc] at hx hcv hcv2 HDg HSm HCp h126 h39
    clear hcc hsm hcp hdg
    go_enter Tryd.func11, Tryd.ntmps11
    go_wp2_with fail
    go_step3
    go_wp2_with fail
    go_step3
    go_wp2_with fail
    refine Calls.mono (show Calls _ _ _ _ _ from (HDg _).out) ?_
    rintro e u ⟨rfl, rfl⟩
    go_wp2_with fail
    refine Calls.mono (show Calls _ _ _ _ _ from (HSm _).out) ?_
    rintro e u ⟨rfl, rfl⟩
    go_wp2_with fail
    refine Calls.mono (show Calls _ _ _ _ _ from (HCp _).out) ?_
    rintro e u ⟨rfl, rfl⟩
    go_wp2
    first | (show Exit.noGoto (bodyPost _ _ _) _ _ _; rw [Exit.noGoto_ret]) | skip
    refine bodyPost_ret (v := .tuple #[.agg #[.int .i64 0, .string ⟨#[]⟩, .int .i64 0, .int .i64 0], .int .i64 0, .int .i64 110]) (by simp [results, Tryd.results11, go_sem]) rfl ⟨congrArg _ HO.out.symm, wA_below w⟩
  · have qe : ((s.size : Int) == 1) = false := beq_eq_false_iff_ne.2 (by omega)
    have hjs : 1 < s.size := by omega
    have hy := fun (w : World) => idx1 s hjs w (P := Tryd.prog) 9 Tryd.underlying9
    have hc1 := bt_bd s 1
    have hcu : IntKind.i32.wrap (bt s 1) = bt s 1 := by rw [IntKind.wrap_i32]; omega
    have hcu2 : wrap32 (bt s 1) = bt s 1 := by unfold wrap32; omega
    have HS2 := fun (u : World) => hideR (pSmall (bt s 1) u)
    cases hs2 : sm (bt s 1) with
    | false =>
      rw [if_pos (.inr hs2)] at hone
      rw [hone]
      simp only [hs2] at HS2
      have HO : Hid (oOut 0 (.error 110) = .tuple #[.agg #[.int .i64 0, .string ⟨#[]⟩, .int .i64 0, .int .i64 0], .int .i64 0, .int .i64 110]) := hideR rfl
      generalize oOut 0 (.error 110) = OUT at HO ⊢
      clear hone hc0 hc1
      obtain ⟨c, hcc⟩ : ∃ c, bt s 0 = c := ⟨_, rfl⟩
      rw [hcc] at hx hcv hcv2 HDg HSm HCp h126 h39
      obtain ⟨c2, hcc2⟩ : ∃ c, bt s 1 = c := ⟨_, rfl⟩
      rw [hcc2] at hy hcu hcu2 HS2
      clear hcc hcc2 hsm hcp hdg hs2
      go_enter Tryd.func11, Tryd.ntmps11
      go_wp2_with fail
      go_step3
      go_wp2_with fail
      go_step3
      go_wp2_with fail
      refine Calls.mono (show Calls _ _ _ _ _ from (HDg _).out) ?_
      rintro e u ⟨rfl, rfl⟩
      go_wp2_with fail
      refine Calls.mono (show Calls _ _ _ _ _ from (HSm _).out) ?_
      rintro e u ⟨rfl, rfl⟩
      go_wp2_with fail
      refine Calls.mono (show Calls _ _ _ _ _ from (HCp _).out) ?_
      rintro e u ⟨rfl, rfl⟩
      go_wp2_with fail
      refine Calls.mono (show Calls _ _ _ _ _ from (HS2 _).out) ?_
      rintro e u ⟨rfl, rfl⟩
      go_wp2
      first | (show Exit.noGoto (bodyPost _ _ _) _ _ _; rw [Exit.noGoto_ret]) | skip
      refine bodyPost_ret (v := .tuple #[.agg #[.int .i64 0, .string ⟨#[]⟩, .int .i64 0, .int .i64 0], .int .i64 0, .int .i64 110]) (by simp [results, Tryd.results11, go_sem]) rfl ⟨congrArg _ HO.out.symm, wA_below w⟩
    | true =>
      rw [if_neg (by rintro (h | h); exact hend h; rw [hs2] at h; cases h)] at hone
      simp only [hs2] at HS2
      have he0 := en_ge s pt 1
      have he1 := en_le s pt (Nat.le_of_lt hjs)
      obtain ⟨E, hE⟩ : ∃ E, en s pt 1 = E := ⟨_, rfl⟩
      have hw0 : en (s.extract 1 s.size) pt 0 = E - 1 := (en_from s pt 1 0 (Nat.le_of_lt hjs)).trans (congrArg (· - 1) hE)
      obtain ⟨t1, ht1⟩ : ∃ t, s.extract 1 s.size = t := ⟨_, rfl⟩
      rw [ht1] at hw0
      have HWd := fun (u : World) => hideR (pWord t1 u)
      rw [hw0] at HWd
      rw [hE] at hone he0 he1
      clear hE hw0
      obtain ⟨L, hL⟩ := aG E he0
      obtain ⟨hwE, hwE2, hL1, hL2⟩ := aF E L s.size hL he1 h63
      rw [hL2] at hone HWd
      clear hL2
      by_cases h32 : 32 < L
      · have q1 : decide ((L : Int) > 32) = true := lt32 h32
        rw [if_pos h32] at hone
        rw [hone]
        have HO : Hid (oOut 0 (.error 2) = .tuple #[.agg #[.int .i64 0, .string ⟨#[]⟩, .int .i64 0, .int .i64 0], .int .i64 0, .int .i64 2]) := hideR rfl
        generalize oOut 0 (.error 2) = OUT at HO ⊢
        clear hone hc0 hc1 hL
        obtain ⟨c, hcc⟩ : ∃ c, bt s 0 = c := ⟨_, rfl⟩
        rw [hcc] at hx hcv hcv2 HDg HSm HCp h126 h39
        obtain ⟨c2, hcc2⟩ : ∃ c, bt s 1 = c := ⟨_, rfl⟩
        rw [hcc2] at hy hcu hcu2 HS2
        clear hcc hcc2 hsm hcp hdg hs2
        go_enter Tryd.func11, Tryd.ntmps11
        go_wp2_with fail
        go_step3
        go_wp2_with fail
        go_step3
        go_wp2_with fail
        refine Calls.mono (show Calls _ _ _ _ _ from (HDg _).out) ?_
        rintro e u ⟨rfl, rfl⟩
        go_wp2_with fail
        refine Calls.mono (show Calls _ _ _ _ _ from (HSm _).out) ?_
        rintro e u ⟨rfl, rfl⟩
        go_wp2_with fail
        refine Calls.mono (show Calls _ _ _ _ _ from (HCp _).out) ?_
        rintro e u ⟨rfl, rfl⟩
        go_wp2_with fail
        refine Calls.mono (show Calls _ _ _ _ _ from (HS2 _).out) ?_
        rintro e u ⟨rfl, rfl⟩
        go_wp2_with fail
        refine Calls.mono (show Calls _ _ _ _ _ from (HWd _).out) ?_
        rintro e u ⟨rfl, hb⟩
        have A8 := (An.start w).on hb
        clear hb
        obtain ⟨W2, hW2, hth, z5, z6, z7, z8, hbl⟩ := (A8).put (.int .i64 0) (.string ⟨#[]⟩) (.int .i64 0) (.int .i64 0)
        have HW2 := hideR hW2; have HTH := hideR hth; have HBL := hideR hbl; clear hW2 hth hbl
        clear A8
        go_wp2_with (refine wpList_store_mid rfl 32 (.tmp 2) (.tmp 79) rfl w.heap.size 0 #[.int .i64 0, .string ⟨#[]⟩, .int .i64 0, .int .i64 0] rfl rfl HTH.out sizeTk (by simp [Value.oneCell']) ?_; rw [HW2.out])
        first | (show Exit.noGoto (bodyPost _ _ _) _ _ _; rw [Exit.noGoto_ret]) | skip
        refine bodyPost_ret (v := .tuple #[.agg #[.int .i64 0, .string ⟨#[]⟩, .int .i64 0, .int .i64 0], .int .i64 0, .int .i64 2]) (by simp [results, Tryd.results11, go_sem, z5, z6, z7, z8]) rfl ⟨congrArg _ HO.out.symm, HBL.out⟩
      · have q1 : decide ((L : Int) > 32) = false := nlt32 h32
        rw [if_neg h32] at hone
        rw [hone]
        have HCl := fun (u : World) => hideR (pClone (s.extract 1 E) u (Nat.le_trans (ext_sz s 1 E) hz))
        obtain ⟨x, hx1⟩ : ∃ x, x = s.extract 1 E := ⟨_, rfl⟩
        have hsl : s.extract 1 E = x := hx1.symm
        rw [← hx1]
        simp only [← hx1] at HCl
        clear hx1
        have HO : Hid (oOut 0 (.ok (3, x, 0, E)) = .tuple #[.agg #[.int .i64 3, .string x, .int .i64 0, .int .i64 0], .int .i64 (E : Nat), .int .i64 0]) := hideR rfl
        generalize oOut 0 (.ok (3, x, 0, E)) = OUT at HO ⊢
        clear hone hc0 hc1 hL
        obtain ⟨c, hcc⟩ : ∃ c, bt s 0 = c := ⟨_, rfl⟩
        rw [hcc] at hx hcv hcv2 HDg HSm HCp h126 h39
        obtain ⟨c2, hcc2⟩ : ∃ c, bt s 1 = c := ⟨_, rfl⟩
        rw [hcc2] at hy hcu hcu2 HS2
        clear hcc hcc2 hsm hcp hdg hs2
        go_enter Tryd.func11, Tryd.ntmps11
        go_wp2_with fail
        go_step3
        go_wp2_with fail
        go_step3
        go_wp2_with fail
        refine Calls.mono (show Calls _ _ _ _ _ from (HDg _).out) ?_
        rintro e u ⟨rfl, rfl⟩
        go_wp2_with fail
        refine Calls.mono (show Calls _ _ _ _ _ from (HSm _).out) ?_
        rintro e u ⟨rfl, rfl⟩
        go_wp2_with fail
        refine Calls.mono (show Calls _ _ _ _ _ from (HCp _).out) ?_
        rintro e u ⟨rfl, rfl⟩
        go_wp2_with fail
        refine Calls.mono (show Calls _ _ _ _ _ from (HS2 _).out) ?_
        rintro e u ⟨rfl, rfl⟩
        go_wp2_with fail
        refine Calls.mono (show Calls _ _ _ _ _ from (HWd _).out) ?_
        rintro e u ⟨rfl, hb⟩
        have A8 := (An.start w).on hb
        clear hb
        go_wp2_with fail
        refine (HCl _).out.mono ?_
        rintro e uc ⟨rfl, hbc⟩
        have A9 := (A8).on hbc
        clear hbc
        obtain ⟨W2, hW2, hth, z5, z6, z7, z8, hbl⟩ := (A9).put (.int .i64 3) (.string x) (.int .i64 0) (.int .i64 0)
        have HW2 := hideR hW2; have HTH := hideR hth; have HBL := hideR hbl; clear hW2 hth hbl
        clear A9
        go_wp2_with (refine wpList_store_mid rfl 32 (.tmp 2) (.tmp 88) rfl w.heap.size 0 #[.int .i64 3, .string x, .int .i64 0, .int .i64 0] rfl rfl HTH.out sizeTk (by simp [Value.oneCell']) ?_; rw [HW2.out])
        first | (show Exit.noGoto (bodyPost _ _ _) _ _ _; rw [Exit.noGoto_ret]) | skip
        refine bodyPost_ret (v := .tuple #[.agg #[.int .i64 3, .string x, .int .i64 0, .int .i64 0], .int .i64 (E : Nat), .int .i64 0]) (by simp [results, Tryd.results11, go_sem, z5, z6, z7, z8]) rfl ⟨congrArg _ HO.out.symm, HBL.out⟩
end Go.Proofs.YtppjjbpiefkjlaaDoor
