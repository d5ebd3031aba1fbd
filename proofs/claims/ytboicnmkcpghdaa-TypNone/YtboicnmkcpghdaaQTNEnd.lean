/- For every type the call TypNone(t) returns true: a solver that nobody made makes no variables, unifies nothing and writes nothing out. No condition. -/
import Derived.Test.YtboicnmkcpghdaaQTN8
import Derived.Test.YtboicnmkcpghdaaQTN2
import Derived.ProofKit
import Derived.OpenShut
import Derived.ShutString
import Derived.Carry
import Derived.Lib.SmallJoins
namespace Go.Proofs.Ytboicnmkcpghdaa.typNone
open Go.ChangeShapes Go.WideShapes Go.ChangeAt Go.RowKit Go.Joins Rep Pz
set_option linter.unusedVariables false
theorem own:ownKnob Try.prog.godebug=none:=by kernel_rfl
theorem laidOut:laidOutB Try.prog=true:=by kernel_rfl
theorem cTyp4:Try.prog.cellsOf 34=4:=by kernel_rfl
theorem four {cs:Array Value} (h:cs.size=4):∃v0 v1 v2 v3,cs=#[v0,v1,v2,v3]:=by
 obtain ⟨l⟩:=cs
 match l,h with
 | [v0,v1,v2,v3],_=>exact ⟨v0,v1,v2,v3,rfl⟩
set_option maxRecDepth 100000 in
theorem lifted (os:Os) (started:os.Started) (H:Type) (enc:TypeId × Value->H) :
  ReturnsInHanded {} Try.checked os 7 .any (Rows.typNoneSpec.pre6 enc Try.prog Try.f7 Rows.typNoneRow.domain false) (Rows.typNoneSpec.post enc Try.prog Try.f7 false true false false):=by
 refine returnsInHanded_of_change (C:=Try.checked) own started (by kernel_rfl) Try.func7
  (ChangeSpec.witness6 (enc:=enc) (C:=Try.checked) false ⟨#[],#[.agg #[.int .i64 0,.string ⟨#[]⟩,.int .i64 0,.slice none 0 0]],[]⟩ 8 (by kernel_rfl) (by kernel_rfl) (by kernel_rfl) (by kernel_rfl)) ?_
 intro W base args ds gs before hval0 hW hcnd _
 have hval:∀(j:Nat) t v,Try.f7.params[j]?=some t->args[j]?=some v->Value.okWide Try.prog W .any base t v:=hval0
 have hW':=hW
 obtain ⟨p,q,hA0,hV,rfl,hfz,hnd⟩:=hW'
 have hA:DataW.TrodAll enc Try.prog W 0 (fun _=>true) true Try.f7.params.toList args.toList ds p:=hA0
 rw [Try.params7] at hA hval
 obtain ⟨v0,vs0,d0,ds0,p0,q0,hargs,rfl,rfl,h0,r0⟩:=trodAll_cons hA
 obtain ⟨rfl,rfl,rfl⟩:=trodAll_nil r0
 obtain rfl:args=#[v0]:=by cases args;simp_all
 obtain ⟨rfl,rfl⟩:=trodVars_none hV
 have h0k:=h0
 have hlt0:∀x ∈ p0,x.block<W.heap.size:=fun x hx=>by have:=hW.lt x (by simp [hx]);simpa using this
 obtain ⟨cs0,rfl,hcs0⟩:=okWide_struct Try.underlying34 (hval 0 34 v0 rfl rfl)
 obtain ⟨y0,y1,y2,y3,rfl⟩:=four (hcs0.trans cTyp4)
 obtain ⟨fuel,hf⟩:=h0
 obtain ⟨t0,ht0⟩:=tyV_of (Nat.le_refl fuel) hf
 clear hA0 hval0
 refine (noneC t0 fuel _ W ht0).mono fun e W' ⟨he,bel⟩=>?_
 subst he
 exact ⟨_,rfl,_,_,_,[],_,[],hW,trodAll_mk1 (shut_bool Try.underlying4 _),(trodAll_cons_mk (Below.trod laidOut (by kernel_rfl) (of_decide_eq_true (by kernel_rfl)) h0k bel hlt0) trodAll_mk0),rfl,bel.frame _,fun h=>by cases h⟩
theorem over:Rows.typNoneRow.holds Try.pinned (OpenSpec.ofChange Rows.typNoneSpec) :=
 OpenClaim.holds_of_wide 7 Try.f7 rfl rfl rfl rfl rfl rfl rfl ⟨rfl,rfl,rfl,rfl,rfl⟩ rfl rfl rfl rfl rfl (by kernel_rfl) Try.func7 (by kernel_rfl)
  (of_decide_eq_true (by kernel_rfl)) (by unfold Func.isWrapper;first|(rw [if_pos (by decide +kernel)];kernel_rfl)|(rw [if_neg (by decide +kernel)];exact ⟨rfl,rfl⟩))
  (fun os started H enc _=>lifted os started H enc)
end Go.Proofs.Ytboicnmkcpghdaa.typNone
namespace Go.Proofs.Ytboicnmkcpghdaa
theorem typNone_holds:Rows.TypNoneSaid:=typNone.over
#print axioms typNone_holds
end Go.Proofs.Ytboicnmkcpghdaa

