/- A function that is a loop over an iterator, whose rounds may give up by a panic: from what the iterator's one call tells to what the function tells; and one such round. -/
import Derived.Test.YtlpnoelolkbmmaaDoorProg
import Derived.RangeFuncIn
import Derived.RangeFuncLeaves
import Derived.RangeFuncCalls
import Derived.RangeFuncRecord
namespace Go.Proofs.YtlpnoelolkbmmaaDoor
open Go.RowKit
set_option linter.unusedVariables false
namespace Val
/-- how code ends that neither jumps nor returns: on behind it, or by a panic -/
def Ends (N : Act → World → Prop) (X : List PanicEntry → Act → World → Prop) : Exit → Act → World → Prop
  | .normal, a, w => N a w
  | .panic ch, a, w => X ch a w
  | _, _, _ => False
section
variable {F : Fence} {n : Nat} {P : Program}
theorem arrives {c : Code} {N : Act → World → Prop} {X : List PanicEntry → Act → World → Prop} {a : Act} {w : World} (h : c.wpIn F n P (Ends N X) a w) {b : Frame} (k : List Item) (cs : List Frame) (hro : b.roundOf = F.round) (hb : F.fn b.fn) (hr : F.room (cs.length + 1 + n)) :
    (∃ a' w', N a' w' ∧ StepsIn (Machine.fenced P F) P (lone (b.atR a (.code c :: k)) cs w) (lone (b.atR a' k) cs w')) ∨
    ∃ ch a' w' todo, X ch a' w' ∧ StepsIn (Machine.fenced P F) P (lone (b.atR a (.code c :: k)) cs w) (lone { b.atR a' todo with mode := .panicking ch } cs w') := by
  obtain ⟨e, a', w', hq, har⟩ := h b k cs hro hb hr
  cases e <;> first | exact hq.elim | exact .inl ⟨a', w', hq, har⟩ | (obtain ⟨todo, hs⟩ := har; exact .inr ⟨_, a', w', todo, hq, hs⟩)
/-- one round: yield is called, the loop's left sides are set, the body runs to its end (yield tells true), or gives up -/
theorem roundP {l : Nat} {f : FuncId} {tmps : Array Value} {assign body : Code} {w : World} {R : Ending → World → Prop} {fn : Func} (hF : F.fn f) (hfn : P.funcs[f]? = some fn)
    (h : assign.wpIn (F.inRound l) n P (Ends (fun a₁ w₁ => ∃ w₂, (Instr.beginRound l).run P w₁ = .ok () w₂ ∧
      body.wpIn (F.inRound l) n P (Ends (fun _ w₃ => ∃ v w₄, (Instr.endRound l none).run P w₃ = .ok v w₄ ∧ R (.returned v) w₄) (fun ch a₃ w₃ => a₃.defers = [] ∧ R (.panicked ch) w₃)) a₁ w₂) (fun _ _ _ => False))
      { tmps := tmps, defers := [] } w) : RoundIn F n P l f tmps assign body w R := by
  refine ⟨hF, fun c cs hr => ?_⟩
  have start : Frame.round l f tmps assign body .normal = ({ (default : Frame) with fn := f, kind := .normal, roundOf := some l } : Frame).atR { tmps := tmps, defers := [] } [.code assign, .beginRound, .code body] := by simp [Frame.round, Frame.atR]
  rw [start]
  generalize hB : ({ (default : Frame) with fn := f, kind := .normal, roundOf := some l } : Frame) = b
  have hbf : (F.inRound l).fn b.fn := by rw [← hB]; exact hF
  have hro : b.roundOf = (F.inRound l).round := by rw [← hB]; rfl
  have hrm : (F.inRound l).room ((c :: cs).length + 1 + n) := hr
  have hnk : b.kind = .normal := by rw [← hB]
  have hrf : b.roundOf = some l := by rw [← hB]
  rcases arrives h [.beginRound, .code body] (c :: cs) hro hbf hrm with ⟨a₁, w₁, ⟨w₂, hbeg, hbody⟩, s₁⟩ | ⟨_, _, _, _, hx, _⟩
  · have s₂ := StepsIn.trans s₁ (.one (fenced_calm hbf hrm rfl) (stepR_beginRound hrf hbeg))
    rcases arrives hbody [] (c :: cs) hro hbf hrm with ⟨a₃, w₃, ⟨v, w₄, hend, hR⟩, s₃⟩ | ⟨ch, a₃, w₃, todo, ⟨hd, hR⟩, s₃⟩
    · exact ⟨.returned v, w₄, hR, StepsIn.trans s₂ (StepsIn.trans s₃ (.one (fenced_calm hbf hrm rfl) (stepR_round_end hrf hnk hend)))⟩
    · have hlv : ({ b.atR a₃ todo with mode := .panicking ch } : Frame).leaving P w₃ (.panicked ch) := ⟨rfl, hd, fn, by rw [← hB]; exact hfn⟩
      exact ⟨.panicked ch, w₃, hR, StepsIn.trans s₂ (StepsIn.trans s₃ (.one (fenced_leaving (n := n) hbf hrm hlv) (step_leave_panicked hlv)))⟩
  · exact hx.elim
/-- a function that makes ready, then goes over an iterator, and ends with it -/
theorem callsRange {f : FuncId} {fn : Func} {A B assign body : Code} {id : Nat} {g : Operand} {ps : Array Tmp} {args : Array Value} {w : World} {R : Ending → World → Prop} (Z : Act → World → Prop)
    (hf : P.funcs[f]? = some fn) (hb : fn.body = some (A.seq (B.seq (Code.block id (Code.rangeFunc g ps assign body))))) (hF : F.fn f) (hro : F.round = none)
    (hA : A.wpIn F n P (Ends (fun a₁ w₁ => B.wpIn F n P (Ends Z fun _ _ _ => False) a₁ w₁) fun _ _ _ => False) { tmps := args ++ Array.replicate (fn.ntmps - args.size) undef, defers := [] } w)
    (hZ : ∀ a w, Z a w → a.defers = [] ∧ ∃ (l : Nat) (mark : List Deferred) (w₁ : World) (d : Deferred) (w₁' : World) (f2 : FuncId) (args2 : Array Value) (w₂ : World),
      (Instr.enterLoop f a.tmps ps assign body none).run P w = .ok (l, mark) w₁ ∧ (resolve a.eval (rangeCall g l) 0).run P w₁ = .ok d w₁' ∧ (∀ f', Target.leads P w₁' d.target d.args = some f' → F.fn f') ∧
      (invoke d.target d.args).run P w₁' = .ok (.enter f2 args2) w₂ ∧ (F.depth.isSome = true → 1 ≤ n) ∧
      CallsIn F (n - 1) P f2 args2 w₂ fun e w₃ => match e with
        | .returned _ => ∃ w₄, (Instr.endLoop l).run P w₃ = .ok none w₄ ∧ LeavesInM F n P fn a.tmps R mark .returning w₄
        | .panicked ch => LeavesInM F n P fn a.tmps R mark (.panicking ch) w₃
        | .outgrown => False) : CallsIn F n P f args w R := by
  refine ⟨hF, fun cs hr => ?_⟩
  have start : Frame.enter P f args .normal = ({ (default : Frame) with fn := f, kind := .normal, roundOf := none } : Frame).atR { tmps := args ++ Array.replicate (fn.ntmps - args.size) undef, defers := [] } [.code (A.seq (B.seq (Code.block id (Code.rangeFunc g ps assign body))))] := by simp [Frame.enter, Frame.atR, hf, hb]
  rw [start]
  generalize hB : ({ (default : Frame) with fn := f, kind := .normal, roundOf := none } : Frame) = b
  have hbn : b.fn = f := by rw [← hB]
  have hbf : F.fn b.fn := by rw [hbn]; exact hF
  have hbr : b.roundOf = none := by rw [← hB]
  have hbk : b.kind = .normal := by rw [← hB]
  have hrr : b.roundOf = F.round := by rw [hbr, hro]
  rcases arrives hA [.code (B.seq (Code.block id (Code.rangeFunc g ps assign body)))] cs hrr hbf hr with ⟨a₁, w₁, hB1, s₁⟩ | ⟨_, _, _, _, hx, _⟩
  · rcases arrives hB1 [.code (Code.block id (Code.rangeFunc g ps assign body))] cs hrr hbf hr with ⟨a₂, w₂, hz, s₂⟩ | ⟨_, _, _, _, hx, _⟩
    · obtain ⟨hd, l, mark, w₃, d, w₃', f2, args2, w₄, he, hres, hlead, hinv, hn, hF2, hcall⟩ := hZ a₂ w₂ hz
      rw [← hbn, ← hbr] at he
      have t₁ := StepsIn.trans (StepsIn.trans (StepsIn.one (fenced_calm (fr := b.atR _ [.code (A.seq (B.seq (Code.block id (Code.rangeFunc g ps assign body))))]) hbf hr rfl) stepR_seq) s₁) (StepsIn.trans (StepsIn.one (fenced_calm (fr := b.atR _ [.code (B.seq (Code.block id (Code.rangeFunc g ps assign body)))]) hbf hr rfl) stepR_seq) s₂)
      have t₂ := StepsIn.trans t₁ (StepsIn.one (fenced_calm (fr := b.atR a₂ [.code (Code.block id (Code.rangeFunc g ps assign body))]) hbf hr rfl) stepR_block)
      have here : (lone (b.atR a₂ (.code (.rangeFunc g ps assign body) :: .inBlock id :: [])) cs w₂).fenced P F := by
        refine fenced_lone (.inl hbf) (fun f' hf' => hlead f' ?_) (Fence.room_le hr (by omega))
        have hev := Frame.eval_atR b a₂ (.code (.rangeFunc g ps assign body) :: .inBlock id :: [])
        simp only [Frame.atR] at hev
        simpa only [Frame.about, Frame.atR, he, hev, hres] using hf'
      have t₃ := StepsIn.trans t₂ (.one here (stepR_rangeFunc (P := P) (b := b) (a := a₂) (k := [.inBlock id]) (cs := cs) (w := w₂) he hres hinv))
      have hroom : F.room ((b.atR { a₂ with defers := mark ++ a₂.defers } (.inRangeFunc l :: [.inBlock id]) :: cs).length + 1 + (n - 1)) := Fence.room_enter hr hn
      obtain ⟨e, w₅, fr, hR, s₄, hfr, hlv⟩ := hcall _ hroom
      cases e with
      | outgrown => exact hR.elim
      | returned v =>
        obtain ⟨w₆, hend, hL⟩ := hR
        have hl := fenced_leaving (hfr ▸ hF2) hroom hlv
        have t₄ := StepsIn.trans t₃ (StepsIn.trans s₄ (.one hl (step_leave_returned hlv)))
        rw [finish_atR_inRangeFunc l v] at t₄
        have t₅ := StepsIn.trans t₄ (StepsIn.one (fenced_calm (fr := b.atR _ (.endRangeFunc l :: [.inBlock id])) hbf hr rfl) (stepR_endRangeFunc hend))
        have t₆ := StepsIn.trans t₅ (StepsIn.one (fenced_calm (fr := b.atR _ [.inBlock id]) hbf hr rfl) stepR_inBlock)
        have t₇ := StepsIn.trans t₆ (StepsIn.one (fenced_calm (fr := b.atR _ []) hbf hr rfl) (stepR_end hbr))
        obtain ⟨e', w'', fr', hR', hs, hfn', hl'⟩ := leaves_stepsInM (mark ++ a₂.defers) .returning w₆ { b.atR { a₂ with defers := mark ++ a₂.defers } [] with mode := .returning } cs rfl rfl rfl (by show P.funcs[b.fn]? = _; rw [hbn]; exact hf) hbk hbf hr (by rw [hd, List.append_nil]; exact hL)
        exact ⟨e', w'', fr', hR', ComesIn.of_steps t₇ hs, hfn'.trans hbn, hl'⟩
      | panicked ch =>
        have hl := fenced_leaving (hfr ▸ hF2) hroom hlv
        have t₄ := StepsIn.trans t₃ (StepsIn.trans s₄ (.one hl (step_leave_panicked hlv)))
        rw [Frame.raise_atR] at t₄
        obtain ⟨e', w'', fr', hR', hs, hfn', hl'⟩ := leaves_stepsInM (mark ++ a₂.defers) (.panicking ch) w₅ { b.atR { a₂ with defers := mark ++ a₂.defers } (.inRangeFunc l :: [.inBlock id]) with mode := .panicking ch } cs rfl rfl rfl (by show P.funcs[b.fn]? = _; rw [hbn]; exact hf) hbk hbf hr (by rw [hd, List.append_nil]; exact hR)
        exact ⟨e', w'', fr', hR', ComesIn.of_steps t₄ hs, hfn'.trans hbn, hl'⟩
    · exact hx.elim
  · exact hx.elim
end
end Val
end Go.Proofs.YtlpnoelolkbmmaaDoor
