/- The document's Grow, Fork, New. -/
import Derived.Test.YtagcdnkgochpnaaQ2
namespace Go.Proofs.Ytagcdnkgochpnaa
open Go.RowKit Mm
set_option linter.unusedVariables false
namespace Mm
theorem zero_cells (n : Nat) : Builtin.zeroCells #[Value.int .u8 0] n = (bcells (List.replicate n 0)).toArray := by
  unfold bcells Builtin.zeroCells
  rw [List.map_replicate]
  apply Array.ext
  · simp
  · intro i h1 h2
    simp [Nat.mod_one]
theorem bcells_app (a b : List Int) : bcells (a ++ b) = bcells a ++ bcells b := by unfold bcells; rw [List.map_append]
theorem heap_cells (g : Nat) (t : TypeId) : ∀ (vs : List Value) (o : Nat) (w : World) (cur : Array Value), w.heap[g]? = some (.cells cur t (0, 0)) → o + vs.length ≤ cur.size →
    (w.setCells g o vs).heap[g]? = some (.cells (cur.toList.take o ++ vs ++ cur.toList.drop (o + vs.length)).toArray t (0, 0))
  | [], o, w, cur, h, _ => by simpa [World.setCells] using h
  | v :: r, o, w, cur, h, hl => by
    simp only [List.length_cons] at hl
    have h1 := heap_cells g t r (o + 1) (w.setCell ⟨g, o, none⟩ v) (cur.setIfInBounds o v) (heap_setCell_same w g o cur t v h) (by rw [Array.size_setIfInBounds]; omega)
    rw [World.setCells, h1, Array.toList_setIfInBounds]
    have hs : o < cur.toList.length := by rw [Array.length_toList]; omega
    have e1 : (cur.toList.set o v).take (o + 1) = cur.toList.take o ++ [v] := by
      rw [List.take_add_one, List.take_set_of_le (Nat.le_refl o), List.getElem?_set_self hs]; rfl
    have e2 : (cur.toList.set o v).drop (o + 1 + r.length) = cur.toList.drop (o + 1 + r.length) := List.drop_set_of_lt (by omega)
    rw [e1, e2]
    simp only [List.length_cons, List.append_assoc, List.cons_append, List.nil_append]
    rw [show o + 1 + r.length = o + (r.length + 1) by omega]
theorem Frm.cells (g : Nat) : ∀ (vs : List Value) (o : Nat) (w : World), Frm [g] w (w.setCells g o vs)
  | [], _, w => Frm.refl _ _
  | v :: r, o, w => (Frm.set g o w v).trans (Frm.cells g r (o + 1) _)
/-- so many zeros more: in place, or in a new row -/
theorem RM.app {w : World} {c r : Nat} {mo : Int} {pg : Nat} {bs : List Int} {ex : List Value} (h : RM w c r mo pg bs ex) (k : Nat) (hk : k ≤ 2097152) :
    ∃ w' r' ex', (Builtin.append_ #[60, 3] 60 #[.slice (some ⟨r, 0, none⟩) bs.length (bs.length + ex.length), .int .i64 k]).run Try.prog w = .ok (.slice (some ⟨r', 0, none⟩) (bs.length + k) (bs.length + k + ex'.length)) w' ∧
      w'.heap[r']? = some (.cells (bcells (bs ++ List.replicate k 0) ++ ex').toArray 5 (0, 0)) ∧ Frm [r] w w' ∧ (r' = r ∨ w.heap.size ≤ r') := by
  have hL : bs.length ≤ 2097152 := by have := h.len; have := h.pg32; omega
  obtain ⟨i, hi, hzz⟩ := Option.map_eq_some_iff.1 info8
  simp only [Prod.mk.injEq] at hzz
  obtain ⟨hz, hs, hb⟩ := hzz
  have hw : IntKind.i64.wrap (k : Int) = k := by rw [IntKind.wrap_i64]; omega
  by_cases hin : k ≤ ex.length
  · have hst := run_storeCells_cells (P := Try.prog) r bs.length (bcells (List.replicate k 0)) 0 w
      (fun j hj => by
        rw [bcells_len, List.length_replicate] at hj
        have : (bcells bs ++ ex)[bs.length + 0 + j]?.isSome = true := by rw [List.getElem?_eq_getElem (by rw [List.length_append, bcells_len]; omega)]; rfl
        unfold World.cell?; rw [h.row]; simpa using this)
      (fun j hj => by unfold World.frozen?; rw [h.row]; simp) (bcells_one _)
    have hz1 : (Value.int .u8 0).cells = #[Value.int .u8 0] := rfl
    refine ⟨w.setCells r bs.length (bcells (List.replicate k 0)), r, ex.drop k, ?_, ?_, Frm.cells _ _ _ _, .inl rfl⟩
    · have hneg : ¬ ((k : Int) < 0) := by omega
      have h48 : ¬ (281474976710656 < (k : Int)) := by omega
      have hcap : bs.length + k + (ex.length - k) = bs.length + ex.length := by omega
      have hle : bs.length + k ≤ bs.length + ex.length := by omega
      have hadd : (⟨r, 0, none⟩ : Addr).add bs.length = ⟨r, bs.length, none⟩ := by rw [add_none]; simp
      have hw0 : IntKind.i64.wrap 0 = 0 := rfl
      by_cases hk0 : k = 0
      · subst hk0
        simp [Builtin.append_, run_underlying Try.underlying60, run_underlying Try.underlying3, sizeOf, typeInfo, zeroValue, hi, hz, hb, asInt, asIntOf, hw0, storeCells, World.setCells, bcells]
      · simp [Builtin.append_, run_underlying Try.underlying60, run_underlying Try.underlying3, sizeOf, typeInfo, zeroValue, hi, hz, hs, hb, asInt, asIntOf, hw, hneg, h48, hin, hk0, hz1, zero_cells, hadd, hst, hcap, Result.andThen]
    · have := heap_cells r 5 (bcells (List.replicate k 0)) bs.length w _ h.row (by simp [bcells_len]; omega)
      rw [this]
      congr 2
      simp only [bcells_len, List.length_replicate]
      rw [List.take_left' (bcells_len bs), bcells_app, show bs.length + k = (bcells bs).length + k by rw [bcells_len], List.drop_append]
      simp
  · have hold : (Builtin.firstCells i.size bs.length (.slice (some ⟨r, 0, none⟩) bs.length (bs.length + ex.length))).run Try.prog w.drew = .ok (bcells bs).toArray w.drew := by
      have hl := run_loadCells_list (P := Try.prog) w.drew ⟨r, 0, none⟩ (bcells bs) (fun j v hj => by
        rw [add_none, Nat.zero_add]
        unfold bcells at hj
        rw [List.getElem?_map] at hj
        cases hx : bs[j]? with
        | none => rw [hx] at hj; cases hj
        | some x => rw [hx] at hj; cases hj; exact h.byte j x hx)
      rw [bcells_len] at hl
      simp [Builtin.firstCells, hs, hl]
    have hr := Lib.run_append_grow_zeros (P := Try.prog) w 60 3 60 5 i (.int .u8 0) .i64 .i64 Try.underlying60 Try.underlying3 hi hz (some ⟨r, 0, none⟩) bs.length (bs.length + ex.length) (bcells bs) hold k (by omega) (by omega) (by omega) (by omega) (by rw [hb]; omega)
      (growslice_fits (by omega) (by rw [hb]; omega))
    have hge := grownCap_ge w (bs.length + k) (bs.length + ex.length) 5
    generalize hW : w.drew.alloc _ = W at hr
    refine ⟨W, w.heap.size, bcells (List.replicate (grownCap w (bs.length + k) (bs.length + ex.length) 5 - (bs.length + k)) 0), ?_, ?_, ?_, .inr (Nat.le_refl _)⟩
    · rw [hr, bcells_len, List.length_replicate, show bs.length + k + (grownCap w (bs.length + k) (bs.length + ex.length) 5 - (bs.length + k)) = grownCap w (bs.length + k) (bs.length + ex.length) 5 by omega]
    · rw [← hW, show w.heap.size = w.drew.heap.size from rfl, Go.Deep.blk_alloc_new]
      congr 2
      rw [show (Value.int .u8 0).cells = #[Value.int .u8 0] from rfl, zero_cells, zero_cells, bcells_app]
      simp
    · rw [← hW]; exact Frm.of (((Below.refl w.heap.size w).drew).alloc (Nat.le_refl _) _)
theorem wpList_app_run {P : Program} {w : World} {ops : Array Oper} {rest : List Oper} {o : Oper} {a : Act} {Q : Exit → Act → World → Prop} (hgd : o.guard = none) (s x : Operand) (t1 t2 : TypeId)
    (ho : o.op = .call { callee := .builtin .append, args := #[s, x], argTypes := #[t1, t2] }) (v1 v2 V : Value) (w' : World) (hs : a.eval s = v1) (hx : a.eval x = v2)
    (hrun : (Builtin.append_ #[t1, t2] o.type #[v1, v2]).run P w = .ok V w') (h : wpList P ops Q rest (a.put o.dst V) w') : wpList P ops Q (o :: rest) a w := by
  refine wpList_plain hgd fun K hK => ?_
  unfold Oper.wp
  simp [execOp, ho, resolve, invoke, builtin, hs, hx, hrun, Result.andThen]
  exact hK _ _ h
/-- what Grow leaves: the new slice is stored -/
theorem RM.grown {w w' : World} {c r r' : Nat} {mo : Int} {pg n : Nat} {bs : List Int} {ex ex' : List Value} (h : RM w c r mo pg bs ex) (hn : ((pg + n : Nat) : Int) ≤ mo)
    (hrow : w'.heap[r']? = some (.cells (bcells (bs ++ List.replicate (n * 65536) 0) ++ ex').toArray 5 (0, 0))) (hf : Frm [r] w w') (hr : r' = r ∨ w.heap.size ≤ r') :
    RM (w'.setCell ⟨c, 0, none⟩ (.slice (some ⟨r', 0, none⟩) (bs.length + n * 65536) (bs.length + n * 65536 + ex'.length))) c r' mo (pg + n) (bs ++ List.replicate (n * 65536) 0) ex' ∧
    Frm [c, r] w (w'.setCell ⟨c, 0, none⟩ (.slice (some ⟨r', 0, none⟩) (bs.length + n * 65536) (bs.length + n * 65536 + ex'.length))) := by
  have hl : (bs ++ List.replicate (n * 65536) (0 : Int)).length = bs.length + n * 65536 := by rw [List.length_append, List.length_replicate]
  have hne : c ≠ r' := by
    rcases hr with rfl | hr
    · exact h.ne
    · have := h.lt; omega
  have hcb : w'.heap[c]? = some (.cells #[.slice (some ⟨r, 0, none⟩) bs.length (bs.length + ex.length), .int .i64 mo] 65 (0, 0)) := by
    rw [hf.block c h.lt (by rw [List.mem_singleton]; exact h.ne)]; exact h.blk
  refine ⟨⟨?_, ?_, ?_, hn, h.most, hne, ?_⟩, (hf.mono (by simp)).trans ((Frm.set c 0 w' _).mono (by simp))⟩
  · rw [heap_setCell_same w' c 0 _ _ _ hcb, hl]; rfl
  · rw [Below.heap_setCell _ _ _ _ (Ne.symm hne)]; exact hrow
  · rw [hl, h.len]; omega
  · intro x hx
    rcases List.mem_append.1 hx with h' | h'
    · exact h.bd x h'
    · rw [List.mem_replicate] at h'; rw [h'.2]; omega
end Mm
set_option maxHeartbeats 1000000 in
theorem qGrowN {w : World} {b r : Nat} {mo : Int} {pg : Nat} {bs : List Int} {ex : List Value} (h : RM w b r mo pg bs ex) (n : Int) (hn : mo - pg < n) :
    Calls Try.prog 29 #[.pointer (some ⟨b, 0, none⟩), .int .u64 n] w fun e w' => e = .returned (.int .i64 (-1)) ∧ Below w.heap.size w w' := by
  have H := hideR h
  have c1 := h.cell 1 _ rfl
  have h1 := h.le
  have h2 := h.most
  have d1 : decide (n > mo - pg) = true := decide_eq_true hn
  clear h
  go_enter Try.func29, Try.ntmps29
  go_wp2_with fail
  go_quiet (first | (go_at_call 10; exact Calls.quiet_of_same (qPages (H.out.on0 (below_drewN' _ _)))))
  go_wp2
  go_ret
  exact ⟨rfl, below_drewN' _ _⟩
set_option maxHeartbeats 1000000 in
theorem qGrowY {w : World} {b r : Nat} {mo : Int} {pg : Nat} {bs : List Int} {ex : List Value} (h : RM w b r mo pg bs ex) (n : Nat) (hn : (n : Int) ≤ mo - pg) :
    Calls Try.prog 29 #[.pointer (some ⟨b, 0, none⟩), .int .u64 n] w fun e w' => e = .returned (.int .i64 pg) ∧ (∃ r' ex' Z, (r' = r ∨ w.heap.size ≤ r') ∧ RM w' b r' mo (pg + n) (bs ++ Z) ex' ∧ Hid (Z = List.replicate (n * 65536) 0)) ∧ Frm [b, r] w w' := by
  have H := hideR h
  have c1 := h.cell 1 _ rfl
  have h1 := h.le
  have h2 := h.most
  have d1 : decide ((n : Int) > mo - pg) = false := decide_eq_false (by omega)
  have hn32 : n ≤ 32 := by omega
  have hL : bs.length ≤ 2097152 := by have := h.len; have := h.pg32; omega
  clear h
  go_enter Try.func29, Try.ntmps29
  go_wp2_with fail
  go_quiet (first | (go_at_call 10; exact Calls.quiet_of_same (qPages (H.out.on0 (below_drewN' _ _)))))
  have hh := H.out.on0 (below_drewN' _ nq)
  have hB := below_drewN' w nq
  generalize w.drewN nq = w1 at *
  have HP := hideR (qPages hh)
  obtain ⟨w2, r2, ex2, hap, hrow, hf, hr⟩ := hh.app (n * 65536) (by omega)
  rw [show ((n * 65536 : Nat) : Int) = (n : Int) * 65536 by omega] at hap
  have c0 := hh.cell 0 _ rfl
  have HG := hideR (hh.grown (n := n) (by omega) hrow hf hr)
  have cw : w2.cell? ⟨b, 0, none⟩ = some (.slice (some ⟨r, 0, none⟩) bs.length (bs.length + ex.length)) := by
    rw [World.cell?_of_block (w := w1) (hf.block b hh.lt (by rw [List.mem_singleton]; exact hh.ne))]; exact c0
  have fw : w2.frozen? ⟨b, 0, none⟩ = false := by
    rw [World.frozen?_of_block (w := w1) (hf.block b hh.lt (by rw [List.mem_singleton]; exact hh.ne))]; exact hh.frz 0
  have HR := hideR hr
  have HB := hideR hB
  have hc0 : w1.cell? ⟨b, 0, none⟩ = some (.slice (some ⟨r, 0, none⟩) bs.length (bs.length + ex.length)) := c0
  clear hh hrow hf hr hB c0
  generalize bs.length + n * 65536 + ex2.length = CC at *
  generalize bs.length + n * 65536 = NN at *
  generalize Value.slice (some ⟨r, 0, none⟩) bs.length (bs.length + ex.length) = U at *
  go_wp2_with (first | (go_at_call 10; refine HP.out.mono ?_; rintro e w' ⟨rfl, rfl⟩) | (at_builtin; refine wpList_app_run rfl (.tmp 26) (.tmp 29) 60 3 rfl _ _ _ _ rfl rfl hap ?_))
  go_ret
  refine ⟨rfl, ⟨r2, ex2, _, ?_, HG.out.1, rfl⟩, ?_⟩
  · rcases HR.out with h | h
    · exact .inl h
    · exact .inr (Nat.le_trans HB.out.size h)
  · exact (Frm.of HB.out).trans HG.out.2
end Go.Proofs.Ytagcdnkgochpnaa
