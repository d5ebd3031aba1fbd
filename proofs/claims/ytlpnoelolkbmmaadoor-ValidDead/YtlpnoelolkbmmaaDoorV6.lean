/- Types are pushed; a frame dies. -/
import Derived.Test.YtlpnoelolkbmmaaDoorV5
import Derived.Test.YtlpnoelolkbmmaaDoorC0
namespace Go.Proofs.YtlpnoelolkbmmaaDoor
open Go.RowKit Rep Val
set_option linter.unusedVariables false
theorem vIntInfo : (Tryd.prog.info? 3).map (fun i => (i.zero, i.size, i.bytes)) = some (some (.int .i64 0), 1, 8) := by kernel_rfl
namespace Val
theorem TS.app {w0 w w9 : World} {p : Nat} {c : Nat → Value} {loc : Value} {st ts : List Int} {fs : List Fv} {vs vf v9 : Value} (h : TS w0 p c loc st fs vs vf w) (ho : w9.ownsRow (p + 1) 3 1 v9 (st.length + ts.length) ((st.map fun z => Value.int .i64 z) ++ ts.map fun z => Value.int .i64 z)) (hg : w.grownBy w9 vs.ownBlock) (hv : v9.ownBlock = vs.ownBlock ∨ v9.ownBlock = some w.heap.size) :
    w9.heap[p]? = w.heap[p]? ∧ TS w0 p c loc (st ++ ts) fs v9 vf (w9.setCell ⟨p, 11, none⟩ v9) ∧ Gr p vs vf w v9 vf (w9.setCell ⟨p, 11, none⟩ v9) := by
  have hp : w9.heap[p]? = w.heap[p]? := hg.block p h.lt (fun e => by have := (h.hs.lt p e.symm).1; omega)
  have hb : ∀ k, k ≠ p → (w9.setCell ⟨p, 11, none⟩ v9).heap[k]? = w9.heap[k]? := fun k hk => Below.heap_setCell _ _ _ _ hk
  have hgr : Gr p vs vf w v9 vf (w9.setCell ⟨p, 11, none⟩ v9) := by
    refine ⟨by simpa using hg.size, fun k hk => ⟨⟨by simpa using Nat.lt_of_lt_of_le hk.1 hg.size, hk.2.1, fun e => ?_, hk.2.2.2⟩, (hb k hk.2.1).trans (hg.block k hk.1 hk.2.2.1)⟩⟩
    rcases hv with hv | hv
    · rw [hv] at e; exact hk.2.2.1 e
    · rw [hv] at e; injection e with e; have := hk.1; omega
  have grown : w9.grownBy (w9.setCell ⟨p, 11, none⟩ v9) (some p) := ⟨rfl, rfl, rfl, by simp, fun k _ hk => hb k (fun e => hk (by rw [e]))⟩
  have hne : ∀ (v : Value) (e : TypeId) (n m : Nat) (xs : List Value), w9.ownsRow (p + 1) e n v m xs → v.ownBlock = none ∨ v.ownBlock ≠ some p := fun v e n m xs h => by
    cases hq : v.ownBlock with
    | none => exact .inl rfl
    | some q => have := (h.lt q hq).1; exact .inr (by simp; omega)
  have hf9 : w9.ownsRow (p + 1) 62 4 vf fs.length (flat4 fs) := h.hf.kept hg (by
    cases hq : vf.ownBlock with
    | none => exact .inl rfl
    | some q => exact .inr (fun e => h.ne q e.symm hq))
  have ho' : w9.ownsRow (p + 1) 3 1 v9 (st ++ ts).length ((st ++ ts).map fun z => Value.int .i64 z) := by rw [List.length_append, List.map_append]; exact ho
  exact ⟨hp, ⟨(h.below.grown hg h.below.size (fun q hq => by have := (h.hs.lt q hq).1; have := h.base; omega)).setCell h.base _, h.base, heap_setCell_same w9 p 11 _ _ _ (hp.trans h.blk), ho'.kept grown (hne _ _ _ _ _ ho'), hf9.kept grown (hne _ _ _ _ _ hf9), fun f hf => ⟨(h.ints f hf).1.keep hgr.keep, (h.ints f hf).2.keep hgr.keep⟩⟩, hgr⟩
end Val
section
variable (w0 : World) (p : Nat) (c : Nat → Value) (loc : Value) (st : List Int) (fs : List Fv) (vs vf : Value) (w : World)
set_option maxRecDepth 100000 in
set_option maxHeartbeats 4000000 in
theorem vPush (h : TS w0 p c loc st fs vs vf w) (tv : Value) (ts : List Int) {S : Nat → Prop} (ht : IntsS w S tv ts) (htl : ts.length ≤ 100000) (hl : st.length ≤ 1000000000) :
    Calls Tryd.prog 56 #[.pointer (some ⟨p, 0, none⟩), tv] w fun e w' => e = .returned (.tuple #[]) ∧ ∃ vs', TS w0 p c loc (st ++ ts) fs vs' vf w' ∧ Gr p vs vf w vs' vf w' := by
  have hrow : Row 1 (fun b o (z : Int) => S b ∧ w.cell? ⟨b, o, none⟩ = .some (.int .i64 z)) tv ts := ht
  obtain ⟨o, cap, rfl⟩ := Row.len hrow
  have hxo : o = none → ts.length = 0 := fun e => by
    rcases hrow.2 with ⟨h0, _⟩ | ⟨b, off, cap', e1, _⟩
    · rw [h0]; rfl
    · injection e1 with e1 _ _; rw [e] at e1; cases e1
  have hnews : ∀ ad, o = some ad → ∀ j u, (ts.map fun z => Value.int .i64 z)[j]? = some u → w.cell? (ad.add j) = some u := fun ad e j u hj => by
    rw [List.getElem?_map] at hj
    cases hx : ts[j]? with
    | none => rw [hx] at hj; cases hj
    | some x =>
      rw [hx] at hj
      have hj : Value.int .i64 x = u := by simpa using hj
      have h0 : 0 < ts.length := by have := (List.getElem?_eq_some_iff.1 hx).1; omega
      obtain ⟨b, off, cap', e1, hc⟩ := Row.some hrow h0
      injection e1 with e1 _ _
      rw [e] at e1; injection e1 with e1; subst e1
      rw [add_addr, ← hj]
      have := (hc j x hx).2
      rw [Nat.mul_one] at this
      exact this
  obtain ⟨oS, cS, rfl⟩ := own_slice h.hs
  have c11 := h.cell 11 _ rfl
  have f11 := h.frz 11
  have H := hideR h
  have HO := hideR h.hs
  have hnl : ((ts.map fun z => Value.int .i64 z)).length = ts.length * 1 := by simp
  have h1 : ∀ u ∈ (ts.map fun z => Value.int .i64 z), u.oneCell' = true := fun u hu => by obtain ⟨z, _, rfl⟩ := List.mem_map.1 hu; rfl
  have HNL := hideR hnl
  have HH1 := hideR h1
  have HNW := hideR hnews
  have HXO := hideR hxo
  have hpw := h.lt
  clear h hnews hxo hrow ht hnl h1
  obtain ⟨i0, hi0, hz0, hz1, hz2⟩ := info_parts vIntInfo
  go_enter Tryd.func56, Tryd.ntmps56
  go_wp2_with (first | (at_builtin; refine wpList_appS rfl _ _ 23 rfl (p + 1) 3 i0 _ 1 8 Tryd.underlying23 hi0 hz0 hz1 hz2 rfl (by decide) _ _ _ rfl HO.out o ts.length cap (ts.map fun z => Value.int .i64 z) rfl ?c6 ?c0 ?c1 ?c2 ?c3 ?c4 ?c5 ?_))
  case c6 => exact HXO.out
  case c0 => exact HNL.out
  case c1 => exact HNW.out
  case c2 => exact HH1.out
  case c3 => unfold maxLen; omega
  case c4 => omega
  case c5 => omega
  intro v9 w9 hown9 hg9 hv9
  obtain ⟨hp9, ht9, hgr9⟩ := H.out.app hown9 hg9 hv9
  have c11' : w9.cell? ⟨p, 11, none⟩ = some (.slice oS st.length cS) := (World.cell?_of_block hp9).trans c11
  have f11' : w9.frozen? ⟨p, 11, none⟩ = false := (World.frozen?_of_block hp9).trans f11
  have hsl := own_slice hown9
  have HT9 := hideR ht9
  have HG9 := hideR hgr9
  clear hown9 hg9 hv9 ht9 hgr9 hp9 c11 f11
  obtain ⟨oN, cN, rfl⟩ := hsl
  go_wp2
  go_end0
  exact ⟨rfl, _, HT9.out, HG9.out⟩
end
end Go.Proofs.YtlpnoelolkbmmaaDoor
