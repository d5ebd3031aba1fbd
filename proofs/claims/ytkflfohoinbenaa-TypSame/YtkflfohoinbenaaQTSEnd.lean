/- The claim. -/
import Derived.Test.YtkflfohoinbenaaQTS12
import Derived.Test.YtkflfohoinbenaaQTS13
import Derived.SizedLaws
import Derived.ProofKit
import Derived.OpenShut
import Derived.ShutString
import Derived.Carry
import Derived.Lib.SmallJoins
namespace Go.Proofs.Ytkflfohoinbenaa.typSame
open Go.ChangeShapes Go.WideShapes Go.ChangeAt Go.RowKit Go.Joins Rep Pz Ty
set_option linter.unusedVariables false
theorem own:ownKnob Try.prog.godebug=none:=by kernel_rfl
theorem laidOut:laidOutB Try.prog=true:=by kernel_rfl
theorem cTyp8:Try.prog.cellsOf 37=8:=by kernel_rfl
theorem bdu {n:Int} (h:(Lit.int .u8 n).wf=true):0<=n/\n<=255:=by have:=bounds_u8 h;omega
theorem eight {cs:Array Value} (h:cs.size=8):∃v0 v1 v2 v3 v4 v5 v6 v7,cs=#[v0,v1,v2,v3,v4,v5,v6,v7]:=by
 obtain ⟨l⟩:=cs
 match l,h with
 | [v0,v1,v2,v3,v4,v5,v6,v7],_=>exact ⟨v0,v1,v2,v3,v4,v5,v6,v7,rfl⟩
set_option maxRecDepth 100000 in
theorem lifted (os:Os) (started:os.Started) (H:Type) (enc:TypeId × Value->H) :
  ReturnsInHanded {} Try.checked os 6 .any (Rows.typSameSpec.pre6 enc Try.prog Try.f6 Rows.typSameRow.domain false) (Rows.typSameSpec.post enc Try.prog Try.f6 false true false false):=by
 refine returnsInHanded_of_change_sized (C:=Try.checked) own started (by kernel_rfl) Try.func6
  (ChangeSpec.witness6 (enc:=enc) (C:=Try.checked) false ⟨#[],#[.int .u8 0,.slice none 0 0,.agg #[.int .i64 0,.string ⟨#[]⟩,.int .i64 0,.slice none 0 0,.int .i64 0,.string ⟨#[]⟩,.int .i64 0,.slice none 0 0]],[]⟩ 8 (by kernel_rfl) (by kernel_rfl) (by kernel_rfl) (by kernel_rfl)) ?_
 intro W base args ds gs before hval0 hW hcnd hsz0 _
 have hval:∀(j:Nat) t v,Try.f6.params[j]?=some t->args[j]?=some v->Value.okWide Try.prog W .any base t v:=hval0
 have hsz:(DataW.weightsEach Try.prog (Try.f6.params.toList++Rows.typSameSpec.plain.varTypes Try.prog) (ds++gs)).all (·<=reachBytes)=true:=hsz0
 have hW':=hW
 obtain ⟨p,q,hA0,hV,rfl,hfz,hnd⟩:=hW'
 have hA:DataW.TrodAll enc Try.prog W 0 (fun _=>true) true Try.f6.params.toList args.toList ds p:=hA0
 rw [Try.params6] at hA hval hsz
 obtain ⟨v0,vs0,d0,ds0,p0,q0,hargs,rfl,rfl,h0,r0⟩:=trodAll_cons hA
 obtain ⟨v1,vs1,d1,ds1,p1,q1,rfl,rfl,rfl,h1,r1⟩:=trodAll_cons r0
 obtain ⟨v2,vs2,d2,ds2,p2,q2,rfl,rfl,rfl,h2,r2⟩:=trodAll_cons r1
 obtain ⟨rfl,rfl,rfl⟩:=trodAll_nil r2
 obtain rfl:args=#[v0,v1,v2]:=by cases args;simp_all
 obtain ⟨rfl,rfl⟩:=trodVars_none hV
 have hw1:∀k ∈ d1.weights Try.prog 22,k<=reachBytes:=fun k hk=>by
  have:=List.all_eq_true.1 hsz _ (DataW.weights_mem_each (j:=1) (t:=22) rfl rfl k hk)
  simpa using this
 have hw2:∀k ∈ d2.weights Try.prog 37,k<=reachBytes:=fun k hk=>by
  have:=List.all_eq_true.1 hsz _ (DataW.weights_mem_each (j:=2) (t:=37) rfl rfl k hk)
  simpa using this
 have h1k:=h1
 have h2k:=h2
 have hlt1:∀x ∈ p1,x.block<W.heap.size:=fun x hx=>by have:=hW.lt x (by simp [hx]);simpa using this
 have hlt2:∀x ∈ p2,x.block<W.heap.size:=fun x hx=>by have:=hW.lt x (by simp [hx]);simpa using this
 obtain ⟨a0,rfl,rfl,rfl,w0⟩:=open_int Try.underlying5 (hval 0 5 v0 rfl rfl) h0
 obtain ⟨oP,nP,cP,rfl⟩:=okWide_slice Try.underlying22 (hval 1 22 v1 rfl rfl)
 obtain ⟨cs2,rfl,hcs2⟩:=okWide_struct Try.underlying37 (hval 2 37 v2 rfl rfl)
 obtain ⟨y0,y1,y2,y3,y4,y5,y6,y7,rfl⟩:=eight (hcs2.trans cTyp8)
 obtain ⟨fuel1,hf1⟩:=h1
 obtain ⟨fuel2,hf2⟩:=h2
 obtain ⟨l,hl⟩:=prs_ofW fuel1 fuel1 _ _ (Nat.le_refl _) hf1 hw1
 obtain ⟨tA,tB,ka,xa,na,ua,kb,xb,nb,ub,rfl,rfl,rfl,rfl,rfl,rfl,rfl,rfl,htA,htB,hsA,hsB⟩:=pr_ofW (Nat.le_refl fuel2) hf2 hw2
 obtain ⟨hb1,hb2⟩:=bdu w0
 obtain ⟨n,rfl⟩:∃n:Nat,a0=(n:Int):=⟨a0.toNat,by omega⟩
 clear hA0 hval0 hsz hsz0
 refine (sameC n fuel1 fuel2 l tA tB _ ka na kb nb xa xb _ _ W (by omega) (hl.imp fun b o x _ h=>h.1) htA htB (fun x hx=>row_mem (f:=PrC W fuel1) hl x hx) hsA hsB).mono fun e W' ⟨he,bel⟩=>?_
 subst he
 exact ⟨_,rfl,_,_,_,[],_,[],hW,trodAll_mk1 (shut_bool Try.underlying4 _),(trodAll_cons_mk (shut_int Try.underlying5 w0) (trodAll_cons_mk (Below.trod laidOut (by kernel_rfl) (of_decide_eq_true (by kernel_rfl)) h1k bel hlt1) (trodAll_cons_mk (Below.trod laidOut (by kernel_rfl) (of_decide_eq_true (by kernel_rfl)) h2k bel hlt2) trodAll_mk0))),rfl,bel.frame _,fun h=>by cases h⟩
theorem over:Rows.typSameRow.holds Try.pinned (OpenSpec.ofChange Rows.typSameSpec) :=
 OpenClaim.holds_of_wide 6 Try.f6 rfl rfl rfl rfl rfl rfl rfl ⟨rfl,rfl,rfl,rfl,rfl⟩ rfl rfl rfl rfl rfl (by kernel_rfl) Try.func6 (by kernel_rfl)
  (of_decide_eq_true (by kernel_rfl)) (by unfold Func.isWrapper;first|(rw [if_pos (by decide +kernel)];kernel_rfl)|(rw [if_neg (by decide +kernel)];exact ⟨rfl,rfl⟩))
  (fun os started H enc _=>lifted os started H enc)
end Go.Proofs.Ytkflfohoinbenaa.typSame
namespace Go.Proofs.Ytkflfohoinbenaa
theorem typSame_holds:Rows.TypSameSaid:=typSame.over
#print axioms typSame_holds
end Go.Proofs.Ytkflfohoinbenaa

