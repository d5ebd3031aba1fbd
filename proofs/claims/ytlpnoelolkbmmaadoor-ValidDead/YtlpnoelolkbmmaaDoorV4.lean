/- Types are popped: pop whole. -/
import Derived.Test.YtlpnoelolkbmmaaDoorV3
namespace Go.Proofs.YtlpnoelolkbmmaaDoor
open Go.RowKit Rep Val
set_option linter.unusedVariables false
namespace Val
/-- types, one behind the other -/
def pp (f : PF) : List Int → List Int → Except Int (List Int)
  | [], st => .ok st
  | t :: r, st => match tk st f t with
    | .ok (_, st') => pp f r st'
    | .error z => .error z
theorem tk_h {f : PF} {st st' : List Int} {t got : Int} (hh : f.height ≤ st.length) (h : tk st f t = .ok (got, st')) : f.height ≤ st'.length ∧ st'.length ≤ st.length := by
  unfold tk at h
  split at h
  · split at h
    · injection h with h; injection h with _ h; subst h; exact ⟨hh, Nat.le_refl _⟩
    · cases h
  · rename_i hne
    split at h
    · injection h with h; injection h with _ h; subst h; rw [List.length_dropLast]; omega
    · cases h
theorem ints_put {w : World} {S S' : Nat → Prop} {v : Value} {l : List Int} {r : Nat} {o o' : Obj} (hr : w.heap[r]? = some o) (ho : o.isCells = false) (h : IntsS w S v l) (hS : ∀ k, S k → k ≠ r → S' k) : IntsS (w.putObj r o') S' v l := by
  unfold IntsS at *
  refine Row.imp h fun b off z _ hx => ?_
  have hne : b ≠ r := fun e => by
    have h2 := hx.2
    unfold World.cell? at h2
    rw [e, hr] at h2
    cases o <;> first | (cases ho; done) | (simp at h2; done)
  exact ⟨hS b hx.1 hne, (World.cell?_of_block (World.putObj_heap_other hne)).trans hx.2⟩
theorem TS.put {w0 w : World} {p : Nat} {c : Nat → Value} {loc : Value} {st : List Int} {fs : List Fv} {vs vf : Value} (h : TS w0 p c loc st fs vs vf w) {r : Nat} {o : Obj} (o' : Obj) (hr : w.heap[r]? = some o) (ho : o.isCells = false) (hb : w0.heap.size ≤ r) : TS w0 p c loc st fs vs vf (w.putObj r o') := by
  have hpr : p ≠ r := fun e => by rw [← e, h.blk] at hr; injection hr with hr; subst hr; cases ho
  have hown : ∀ (v : Value) (e : TypeId) (n m : Nat) (xs : List Value), w.ownsRow (p + 1) e n v m xs → v.ownBlock = none ∨ v.ownBlock ≠ some r := fun v e n m xs h => by
    rcases h.2 with ⟨rfl, _⟩ | ⟨g, cap, cur, rfl, _, hg, _⟩
    · exact .inl rfl
    · refine .inr fun e => ?_
      have e : g = r := by simpa [Value.ownBlock] using e
      rw [e, hr] at hg; injection hg with hg; subst hg; cases ho
  exact ⟨h.below.grown (grownBy_putObj' w r o') h.below.size (fun q e => by cases e; exact hb), h.base, by rw [World.putObj_heap_other hpr]; exact h.blk, h.hs.kept (grownBy_putObj' w r o') (hown _ _ _ _ _ h.hs), h.hf.kept (grownBy_putObj' w r o') (hown _ _ _ _ _ h.hf),
    fun f hf => ⟨ints_put hr ho (h.ints f hf).1 (fun k hk _ => ⟨by simpa using hk.1, hk.2⟩), ints_put hr ho (h.ints f hf).2 (fun k hk _ => ⟨by simpa using hk.1, hk.2⟩)⟩⟩
def popAssign : Code := Code.region 2 #[{ dst := some 5, op := Op.assign (Operand.tmp 9), type := 3, pos := "valid.go:268", after := #[], guard := none }] false
def popBody : Code := Code.block 1 (Code.region 3 #[{ dst := some 10, op := Op.load 53 (Operand.tmp 2), type := 53, pos := "valid.go:269", after := #[], guard := none }, { dst := some 11, op := Op.move (Operand.tmp 5), type := 3, pos := "valid.go:269", after := #[], guard := none }, { dst := some 12, op := Op.call { callee := Callee.value (Operand.func 59), args := #[Operand.tmp 10, Operand.tmp 11], argTypes := #[53, 3] }, type := 3, pos := "valid.go:269", after := #[{ on := 0, ground := Ground.data }, { on := 1, ground := Ground.data }], guard := none }] false)
/-- the loop's record -/
def popRec (p : Nat) (tv : Value) (bt Bs D : Nat) (st : LoopState) : Loop :=
  { state := st, pending := none, fn := 40, tmps := #[.pointer (some ⟨p, 0, none⟩), tv, .pointer (some ⟨bt, 0, none⟩), undef, undef, undef, tv, .func (.func 76) #[] #[.pointer (some ⟨Bs, 0, none⟩)], undef, undef, undef, undef, undef], params := #[8, 9], assign := popAssign, body := popBody, defers := D }
/-- between two rounds: the types that are left to be popped, what comes of it -/
structure PM (w0 : World) (p : Nat) (c : Nat → Value) (loc : Value) (fs : List Fv) (f : Fv) (vs vf : Value) (tv : Value) (bt Bs D r : Nat) (w2 : World) (L : Nat) (X : Except Int (List Int)) (rest : List Int) (W : World) : Prop where
  ts : ∃ st vs', TS w0 p c loc st (fs ++ [f]) vs' vf W ∧ pp f.1 rest st = X ∧ f.1.height ≤ st.length ∧ st.length ≤ L ∧ ∀ q, Kp p vs vf w2 q → q ≠ r → Kp p vs' vf W q ∧ W.heap[q]? = w2.heap[q]?
  size : w2.heap.size ≤ W.heap.size
  rec_ : W.heap[r]? = some (.loop (popRec p tv bt Bs D .ready))
end Val
set_option maxRecDepth 100000 in
set_option maxHeartbeats 4000000 in
/-- one round -/
theorem popRound (m : Nat) (w0 : World) (p : Nat) (c : Nat → Value) (loc : Value) (fs : List Fv) (f : Fv) (vs vf tv : Value) (bt Bs D r : Nat) (w2 : World) (L : Nat) (X : Except Int (List Int)) (x i : Int) (rest : List Int) (W : World)
    (h : PM w0 p c loc fs f vs vf tv bt Bs D r w2 L X (x :: rest) W) (hfs : fs.length ≤ 1000000) (hL : L ≤ 1000000000) (hbt : Kp p vs vf w2 bt) (hbr : bt ≠ r) (hct : w2.cell? ⟨bt, 0, none⟩ = some (.pointer (some ⟨p, 0, none⟩))) (hr : w0.heap.size ≤ r) :
    RoundIn Fence.wide m Tryd.prog r 40 #[.pointer (some ⟨p, 0, none⟩), tv, .pointer (some ⟨bt, 0, none⟩), undef, undef, undef, tv, .func (.func 76) #[] #[.pointer (some ⟨Bs, 0, none⟩)], .int .i64 i, .int .i64 x, undef, undef, undef] popAssign popBody W
      fun e W' => (e = .returned (.bool true) ∧ PM w0 p c loc fs f vs vf tv bt Bs D r w2 L X rest W') ∨ (∃ z, e = .panicked (gave z) ∧ X = .error z ∧ Below w0.heap.size w0 W' ∧ w2.heap.size ≤ W'.heap.size ∧ ∀ q, Kp p vs vf w2 q → q ≠ r → W'.heap[q]? = w2.heap[q]?) := by
  refine roundP trivial Tryd.func40 ?_
  obtain ⟨st, vs', hts, hpp, hh, hl, hk⟩ := h.ts
  have hrl : r < W.heap.size := (Array.getElem?_eq_some_iff.1 h.rec_).1
  have hbeg := run_beginRound (P := Tryd.prog) h.rec_ rfl
  obtain ⟨W2, hW2⟩ : ∃ W2, W.putObj r (.loop { popRec p tv bt Bs D .ready with state := .busy }) = W2 := ⟨_, rfl⟩
  have hts2 := hts.put (.loop { popRec p tv bt Bs D .ready with state := .busy }) h.rec_ rfl hr
  rw [hW2] at hbeg hts2
  have hc2 : W2.cell? ⟨bt, 0, none⟩ = some (.pointer (some ⟨p, 0, none⟩)) := by rw [← hW2]; exact (World.cell?_of_block (World.putObj_heap_other hbr)).trans ((World.cell?_of_block (hk bt hbt hbr).2).trans hct)
  have hL2 : W2.heap[r]? = some (.loop { popRec p tv bt Bs D .ready with state := .busy }) := by rw [← hW2]; exact World.putObj_heap_same hrl
  have hk2 : ∀ q, Kp p vs vf w2 q → q ≠ r → Kp p vs' vf W2 q ∧ W2.heap[q]? = w2.heap[q]? := fun q hq hne => by
    obtain ⟨h1, h2⟩ := hk q hq hne
    rw [← hW2]
    exact ⟨⟨by simpa using h1.1, h1.2⟩, (World.putObj_heap_other hne).trans h2⟩
  have hs2 : w2.heap.size ≤ W2.heap.size := by rw [← hW2]; simpa using h.size
  have hrk : Kp p vs' vf W2 r := by
    refine ⟨(Array.getElem?_eq_some_iff.1 hL2).1, fun e => ?_, fun e => ?_, fun e => ?_⟩
    · rw [e, hts2.blk] at hL2; cases hL2
    · rcases hts2.hs.2 with ⟨rfl, _⟩ | ⟨g, cap, cur, rfl, _, hg, _⟩
      · cases e
      · have e : r = g := by simpa [Value.ownBlock] using e
        rw [e, hg] at hL2; cases hL2
    · rcases hts2.hf.2 with ⟨rfl, _⟩ | ⟨g, cap, cur, rfl, _, hg, _⟩
      · cases e
      · have e : r = g := by simpa [Value.ownBlock] using e
        rw [e, hg] at hL2; cases hL2
  have hT := vTake w0 p c loc st fs f vs' vf W2 hts2 x hfs hh (by omega)
  have HT := hideR hT
  have hstep : pp f.1 (x :: rest) st = match tk st f.1 x with | .ok (_, st') => pp f.1 rest st' | .error z => .error z := rfl
  rw [hpp] at hstep
  have HSTEP := hideR hstep
  clear hW2 hT hts h hts2 hstep hpp
  unfold popAssign
  gi_wp2_with (rw [Oper.semAt_eq _ _ _ (fun c h => by cases h)]; go_simp; try go_bits)
  show ∃ w₂, (Instr.beginRound r).run Tryd.prog W = .ok () w₂ ∧ _
  refine ⟨_, hbeg, ?_⟩
  unfold popBody
  gi_wp2_with (rw [Oper.semAt_eq _ _ _ (fun c h => by cases h)]; go_simp; try go_bits)
  refine ⟨trivial, (by intro h; cases h), CallsIn.inRound r (callsIn_wide.2 ?_)⟩
  refine HT.out.mono ?_
  intro e W3 hx
  cases ht : tk st f.1 x with
  | error z =>
    rw [ht] at hx
    obtain ⟨rfl, hb, vs3, hg⟩ := hx
    have hX := HSTEP.out
    rw [ht] at hX
    exact ⟨rfl, z, rfl, hX, hb, Nat.le_trans hs2 hg.size, fun q hq hne => (hg.keep q (hk2 q hq hne).1).2.trans (hk2 q hq hne).2⟩
  | ok v =>
    obtain ⟨got, st'⟩ := v
    rw [ht] at hx
    obtain ⟨rfl, vs3, h3, hg⟩ := hx
    have hX : X = pp f.1 rest st' := by have hX := HSTEP.out; rw [ht] at hX; exact hX
    have hh3 := tk_h hh ht
    have hL3 : W3.heap[r]? = some (.loop { popRec p tv bt Bs D .ready with state := .busy }) := (hg.keep r hrk).2.trans hL2
    have hrl3 : r < W3.heap.size := (Array.getElem?_eq_some_iff.1 hL3).1
    have HPM : Hid (PM w0 p c loc fs f vs vf tv bt Bs D r w2 L X rest (W3.putObj r (.loop (popRec p tv bt Bs D .ready)))) := hideR
      ⟨⟨st', vs3, h3.put _ hL3 rfl hr, hX.symm, hh3.1, by omega, fun q hq hne => by
          obtain ⟨a1, a2⟩ := hk2 q hq hne
          obtain ⟨b1, b2⟩ := hg.keep q a1
          exact ⟨⟨by simpa using b1.1, b1.2⟩, (World.putObj_heap_other hne).trans (b2.trans a2)⟩⟩,
        by rw [World.putObj_size]; exact Nat.le_trans hs2 hg.size, World.putObj_heap_same hrl3⟩
    have hend := run_endRound (P := Tryd.prog) none hL3
    clear hL2 hk2 hk hc2 hbeg HT HSTEP ht hX h3 hg
    gi_wp2_with (rw [Oper.semAt_eq _ _ _ (fun c h => by cases h)]; go_simp; try go_bits)
    exact ⟨_, _, hend, rfl, HPM.out⟩
end Go.Proofs.YtlpnoelolkbmmaaDoor
